/- Where a version's bytes lie in a page behind place and stamp. -/
import Derived.Test.YtbpgjpopmohbmaaPageY
import Derived.Test.YtbpgjpopmohbmaaPageK
namespace Go.Proofs.Ytbpgjpopmohbmaa.Mem
open Go.RowKit Go.Proofs.Ytbpgjpopmohbmaa.Nums
set_option linter.unusedVariables false
set_option linter.unusedSimpArgs false
set_option maxRecDepth 100000
theorem lay_front {A B b : List UInt8} {c : Nat} (h : c + b.length ≤ A.length) : lay (A ++ B) c b = lay A c b ++ B := by
  unfold lay
  rw [List.take_append_of_le_length (by omega), List.drop_append_of_le_length h]
  simp only [List.append_assoc]
/-- behind place the version's bytes stand at their place -/
theorem placeL_mid {X vl : List UInt8} {s at_ : Nat} (hX : X.length = 512) (h1 : at_ + vl.length ≤ 512) (h2 : 8 + 4 * s ≤ at_) : ∃ pre post, placeL X s at_ vl = pre ++ (vl ++ post) ∧ pre.length = at_ := by
  have e0 : lay X at_ vl = X.take at_ ++ (vl ++ X.drop (at_ + vl.length)) := by unfold lay; rw [List.append_assoc]
  have l0 : (X.take at_).length = at_ := by rw [List.length_take]; omega
  have l1 := lay_len (X := X.take at_) (b := nb at_ 2) (a := 2) (by rw [nb_len, l0]; omega)
  have l2 := lay_len (X := lay (X.take at_) 2 (nb at_ 2)) (b := nb at_ 2) (a := 4 + 4 * s) (by rw [nb_len, l1, l0]; omega)
  have l3 := lay_len (X := lay (lay (X.take at_) 2 (nb at_ 2)) (4 + 4 * s) (nb at_ 2)) (b := nb vl.length 2) (a := 6 + 4 * s) (by rw [nb_len, l2, l1, l0]; omega)
  refine ⟨lay (lay (lay (X.take at_) 2 (nb at_ 2)) (4 + 4 * s) (nb at_ 2)) (6 + 4 * s) (nb vl.length 2), X.drop (at_ + vl.length), ?_, by rw [l3, l2, l1, l0]⟩
  unfold placeL
  rw [e0, lay_front (by rw [nb_len, l0]; omega), lay_front (by rw [nb_len, l1, l0]; omega), lay_front (by rw [nb_len, l2, l1, l0]; omega)]
/-- stamp turns the end and the next of a version that stands there, and nothing else -/
theorem stampL_mid (pre post d : List UInt8) (r a b P1 S1 U P2 S2 f : Nat) (hf : pre.length = f) : stampL (pre ++ (verL r a b P1 S1 d ++ post)) f U P2 S2 = pre ++ (verL r a U P2 S2 d ++ post) := by
  unfold stampL verL
  have e1 : lay (pre ++ (nb r 8 ++ (nb a 8 ++ (nb b 8 ++ (nb P1 4 ++ (nb S1 2 ++ d)))) ++ post)) (f + 16) (nb U 8) = pre ++ (nb r 8 ++ (nb a 8 ++ (nb U 8 ++ (nb P1 4 ++ (nb S1 2 ++ d)))) ++ post) := by
    have h := lay_mid (x := pre ++ nb r 8 ++ nb a 8) (y := nb b 8) (z := nb P1 4 ++ (nb S1 2 ++ (d ++ post))) (b := nb U 8) (a := f + 16) (by simp only [List.length_append, nb_len, hf]) (by rw [nb_len, nb_len])
    simp only [List.append_assoc] at h ⊢
    exact h
  have e2 : lay (pre ++ (nb r 8 ++ (nb a 8 ++ (nb U 8 ++ (nb P1 4 ++ (nb S1 2 ++ d)))) ++ post)) (f + 24) (nb P2 4) = pre ++ (nb r 8 ++ (nb a 8 ++ (nb U 8 ++ (nb P2 4 ++ (nb S1 2 ++ d)))) ++ post) := by
    have h := lay_mid (x := pre ++ nb r 8 ++ nb a 8 ++ nb U 8) (y := nb P1 4) (z := nb S1 2 ++ (d ++ post)) (b := nb P2 4) (a := f + 24) (by simp only [List.length_append, nb_len, hf]) (by rw [nb_len, nb_len])
    simp only [List.append_assoc] at h ⊢
    exact h
  have e3 : lay (pre ++ (nb r 8 ++ (nb a 8 ++ (nb U 8 ++ (nb P2 4 ++ (nb S1 2 ++ d)))) ++ post)) (f + 28) (nb S2 2) = pre ++ (nb r 8 ++ (nb a 8 ++ (nb U 8 ++ (nb P2 4 ++ (nb S2 2 ++ d)))) ++ post) := by
    have h := lay_mid (x := pre ++ nb r 8 ++ nb a 8 ++ nb U 8 ++ nb P2 4) (y := nb S1 2) (z := d ++ post) (b := nb S2 2) (a := f + 28) (by simp only [List.length_append, nb_len, hf]) (by rw [nb_len, nb_len])
    simp only [List.append_assoc] at h ⊢
    exact h
  rw [e1, e2, e3]
/-- bytes in the middle, as a number -/
theorem getN_mid {x y z : List UInt8} {f m : Nat} (hf : x.length = f) (hm : y.length = m) : getN (x ++ (y ++ z)) f m = leN y := by
  unfold getN
  rw [← hf, List.drop_left, ← hm, List.take_left]
theorem getN_ver (pre post d : List UInt8) (r a b P1 S1 f : Nat) (hf : pre.length = f) (hr : r < 18446744073709551616) (ha : a < 18446744073709551616) (hb : b < 18446744073709551616) (hP : P1 ≤ 65536) (hS : S1 ≤ 65535) :
    getN (pre ++ (verL r a b P1 S1 d ++ post)) f 8 = r ∧ getN (pre ++ (verL r a b P1 S1 d ++ post)) (f + 8) 8 = a ∧ getN (pre ++ (verL r a b P1 S1 d ++ post)) (f + 16) 8 = b ∧ getN (pre ++ (verL r a b P1 S1 d ++ post)) (f + 24) 4 = P1 ∧ getN (pre ++ (verL r a b P1 S1 d ++ post)) (f + 28) 2 = S1 ∧ ((pre ++ (verL r a b P1 S1 d ++ post)).drop (f + 30)).take d.length = d := by
  unfold verL
  simp only [List.append_assoc]
  refine ⟨?_, ?_, ?_, ?_, ?_, ?_⟩
  · rw [getN_mid hf (nb_len r 8), leN_nb r 8 hr]
  · rw [← List.append_assoc, getN_mid (by rw [List.length_append, nb_len, hf]) (nb_len a 8), leN_nb a 8 ha]
  · rw [← List.append_assoc, ← List.append_assoc, getN_mid (by simp only [List.length_append, nb_len, hf]) (nb_len b 8), leN_nb b 8 hb]
  · rw [← List.append_assoc, ← List.append_assoc, ← List.append_assoc, getN_mid (by simp only [List.length_append, nb_len, hf]) (nb_len P1 4), leN_nb P1 4 (by omega)]
  · rw [← List.append_assoc, ← List.append_assoc, ← List.append_assoc, ← List.append_assoc, getN_mid (by simp only [List.length_append, nb_len, hf]) (nb_len S1 2), leN_nb S1 2 (by omega)]
  · rw [← List.append_assoc, ← List.append_assoc, ← List.append_assoc, ← List.append_assoc, ← List.append_assoc, List.drop_left' (by simp only [List.length_append, nb_len, hf]), List.take_left]
/-- a new page behind one Insert -/
structure One (X : List UInt8) (f n : Nat) : Prop where
  sl : slN X = 1
  fr : frS X 0 = f
  sz : szS X 0 = 30 + n
  fit : f + (30 + n) ≤ 512
theorem One.fine {X : List UInt8} {f n : Nat} (h : One X f n) : Fine X :=
  ⟨by rw [h.sl]; omega, fun s hs => by rw [h.sl] at hs; obtain rfl : s = 0 := (by omega); rw [h.fr, h.sz]; exact h.fit⟩
theorem one_place (vl : List UInt8) (n at_ : Nat) (hv : vl.length = 30 + n) (hn : n ≤ 200) (hat : at_ + (30 + n) = 512) : One (placeL (lay X0 0 (nb 1 2)) 0 at_ vl) at_ n := by
  have z0 : (lay X0 0 (nb 1 2)).length = 512 := by rw [lay_len (by rw [nb_len, x0_len]; omega), x0_len]
  have e1 := lay_len (X := lay X0 0 (nb 1 2)) (b := vl) (a := at_) (by omega)
  have e2 := lay_len (X := lay (lay X0 0 (nb 1 2)) at_ vl) (b := nb at_ 2) (a := 2) (by rw [nb_len, e1, z0]; omega)
  have e3 := lay_len (X := lay (lay (lay X0 0 (nb 1 2)) at_ vl) 2 (nb at_ 2)) (b := nb at_ 2) (a := 4 + 4 * 0) (by rw [nb_len, e2, e1, z0]; omega)
  refine ⟨?_, ?_, ?_, by omega⟩
  · unfold slN placeL
    rw [get2_other (by rw [nb_len, e3, e2, e1, z0]; omega) (by rw [nb_len]; omega), get2_other (by rw [nb_len, e2, e1, z0]; omega) (by rw [nb_len]; omega), get2_other (by rw [nb_len, e1, z0]; omega) (by rw [nb_len]; omega), get2_other (by rw [z0]; omega) (by omega), get2_same (by rw [nb_len, x0_len]; omega) (nb_len _ _)]
    rfl
  · unfold frS placeL
    rw [get2_other (by rw [nb_len, e3, e2, e1, z0]; omega) (by rw [nb_len]; omega), get2_same (by rw [nb_len, e2, e1, z0]; omega) (nb_len _ _), leN_nb at_ 2 (by omega)]
  · unfold szS placeL
    rw [get2_same (by rw [nb_len, e3, e2, e1, z0]; omega) (nb_len _ _), leN_nb vl.length 2 (by omega), hv]
theorem one_stamp {X : List UInt8} {f n U P1 S1 : Nat} (hX : X.length = 512) (h : One X f n) (hf : 8 ≤ f) : One (stampL X f U P1 S1) f n := by
  have hfit := h.fit
  have e1 := lay_len (X := X) (b := nb U 8) (a := f + 16) (by rw [nb_len]; omega)
  have e2 := lay_len (X := lay X (f + 16) (nb U 8)) (b := nb P1 4) (a := f + 24) (by rw [nb_len, e1]; omega)
  have g : ∀ c, c + 2 ≤ 8 → get2 (stampL X f U P1 S1) c = get2 X c := fun c hc => by
    unfold stampL
    rw [get2_other (by rw [nb_len, e2, e1]; omega) (by omega), get2_other (by rw [nb_len, e1]; omega) (by omega), get2_other (by rw [nb_len]; omega) (by omega)]
  exact ⟨(g 0 (by omega)).trans h.sl, (g 4 (by omega)).trans h.fr, (g 6 (by omega)).trans h.sz, h.fit⟩
theorem One.used {X : List UInt8} {f n : Nat} (h : One X f n) : usN X (slN X) = 1 := by
  rw [h.sl]
  show 0 + (if szS X 0 = 0 then 0 else 1) = 1
  rw [h.sz, if_neg (by omega)]
end Go.Proofs.Ytbpgjpopmohbmaa.Mem
