/- page.place. -/
import Derived.Test.YtbpgjpopmohbmaaPageV
namespace Go.Proofs.Ytbpgjpopmohbmaa.Mem
open Go.RowKit Go.Proofs.Ytbpgjpopmohbmaa.Nums
set_option linter.unusedVariables false
set_option linter.unusedSimpArgs false
set_option maxRecDepth 100000
set_option maxHeartbeats 4000000
theorem wpl_copy_bb {w : World} {ops : Array Oper} {rest : List Oper} {o : Oper} {a : Act} {Q : Exit → Act → World → Prop} (hgd : o.guard = none) (d s : Operand)
    (ho : o.op = .call { callee := .builtin .copy, args := #[d, s], argTypes := #[31, 31] })
    (g off dLen dCap : Nat) (ad : Addr) (sLen sCap : Nat) (hd : a.eval d = .slice (some ⟨g, off, none⟩) dLen dCap) (hs : a.eval s = .slice (some ad) sLen sCap)
    (X : List UInt8) (t : TypeId) (hg : BB w g t X) (vl : List UInt8) (hn : vl.length = Nat.min sLen dLen) (hsrc : ∀ j v, (u8s vl)[j]? = some v → w.cell? (ad.add j) = some v) (hfit : off + vl.length ≤ X.length)
    (h : ∀ w1, BB w1 g t (lay X off vl) → Only g w w1 → wpList Try.prog ops Q rest (a.put o.dst (goInt (u8s vl).length)) w1) : wpList Try.prog ops Q (o :: rest) a w := by
  refine wpList_copy_own hgd d s _ _ ho 5 Try.underlying31 size5 g off dLen dCap ad sLen sCap hd hs (u8s X).toArray t hg (u8s vl) (by rw [u8s_len]; exact hn) hsrc (by rw [List.size_toArray, u8s_len, u8s_len]; exact hfit) (u8s_one _) (h _ ?_ ?_)
  · have e := lay_splice X vl off
    unfold splice at e
    unfold BB Blk
    rw [e, List.toList_toArray]
    exact setRow_heap w g _ _ t _ hg
  · exact ⟨rfl, rfl, rfl, by simp [World.setRow], fun k _ hk => setRow_other w g k _ hk⟩
/-- a page behind 'place' -/
def placeL (X : List UInt8) (s at_ : Nat) (vl : List UInt8) : List UInt8 := lay (lay (lay (lay X at_ vl) 2 (nb at_ 2)) (4 + 4 * s) (nb at_ 2)) (6 + 4 * s) (nb vl.length 2)
theorem placeL_len {X vl : List UInt8} {s at_ : Nat} (hX : X.length = 512) (h1 : at_ + vl.length ≤ 512) (h2 : 8 + 4 * s ≤ 512) : (placeL X s at_ vl).length = 512 := by
  unfold placeL
  have e1 := lay_len (X := X) (b := vl) (a := at_) (by omega)
  have e2 := lay_len (X := lay X at_ vl) (b := nb at_ 2) (a := 2) (by rw [nb_len, e1]; omega)
  have e3 := lay_len (X := lay (lay X at_ vl) 2 (nb at_ 2)) (b := nb at_ 2) (a := 4 + 4 * s) (by rw [nb_len, e2, e1]; omega)
  rw [lay_len (by rw [nb_len, e3, e2, e1]; omega), e3, e2, e1, hX]
theorem place_pg (P s at_ L c : Nat) (X vl : List UInt8) (ad : Addr) (w : World) (hp : Pg w P X) (hbg : bgN X = at_ + L) (hat : at_ + L ≤ 512) (hvl : vl.length = L) (hL : 1 ≤ L) (hs : 8 + 4 * s ≤ 512) (hsrc : ∀ j v, (u8s vl)[j]? = some v → w.cell? (ad.add j) = some v) :
    Calls Try.prog 82 #[.pointer (some ⟨P, 0, none⟩), .int .i64 s, .slice (some ad) L c] w fun e w' => e = .returned (.tuple #[]) ∧ Pg w' P (placeL X s at_ vl) ∧ Only P w w' := by
  have HP := Lib.hid hp
  have C1 := Lib.hid (begin_pg P X w hp)
  have e : get2 X 2 = at_ + L := hbg
  rw [e] at C1
  push_cast at C1
  have HSRC := Lib.hid hsrc
  have HVL := Lib.hid hvl
  have k1 : (at_ : Int) ≤ 512 := by omega
  have k2 : (0 : Int) ≤ at_ := Int.natCast_nonneg _
  have k3 : (at_ : Int) + L ≤ 512 := by omega
  have k4 : ¬ 512 - at_ = 0 := by omega
  have k5 : (1 : Int) ≤ L := by omega
  have e1 := lay_len (X := X) (b := vl) (a := at_) (by rw [hp.2]; omega)
  have e2 := lay_len (X := lay X at_ vl) (b := nb at_ 2) (a := 2) (by rw [nb_len, e1, hp.2]; omega)
  have e3 := lay_len (X := lay (lay X at_ vl) 2 (nb at_ 2)) (b := nb at_ 2) (a := 4 + 4 * s) (by rw [nb_len, e2, e1, hp.2]; omega)
  have HL1 := Lib.hid (e1.trans hp.2)
  have HL2 := Lib.hid (e2.trans HL1.out)
  have HL3 := Lib.hid (e3.trans HL2.out)
  have HAT := Lib.hid (And.intro hat hs)
  have HLEN := Lib.hid (placeL_len (X := X) (vl := vl) (s := s) (at_ := at_) hp.2 (by omega) hs)
  clear e e1 e2 e3 hbg hsrc hp hat hvl hL hs
  go_enter Try.func82, Try.ntmps82
  go_wp2_with fail
  refine C1.out.mono ?_
  rintro e w1 ⟨rfl, rfl⟩
  go_wp2_with (refine wpl_copy_bb rfl (.tmp 17) (.tmp 18) rfl P at_ (512 - at_) (512 - at_) ad L c rfl rfl X 113 HP.out.1 vl (by rw [HVL.out]; exact (Nat.min_eq_left (by have := HAT.out; omega)).symm) HSRC.out (by rw [HP.out.2, HVL.out]; exact HAT.out.1) ?_; intro wa hba hoa)
  have HA : Hid (Pg wa P (lay X at_ vl)) := Lib.hid ⟨hba, HL1.out⟩
  have HOA := Lib.hid hoa
  clear hba hoa
  go_wp2_with fail
  refine (setBegin_pg P at_ _ _ HA.out (by have := HAT.out; omega)).mono ?_
  rintro e wb ⟨rfl, hpb, hob⟩
  have HB := Lib.hid hpb
  have HOB := Lib.hid (HOA.out.trans hob)
  clear hpb hob
  go_wp2_with fail
  refine (slot_pg P s _ (by have := HAT.out; omega)).mono ?_
  rintro e wc ⟨rfl, rfl⟩
  obtain ⟨q, hq⟩ : ∃ q, 4 + 4 * s = q := ⟨_, rfl⟩
  have HQ := Lib.hid hq
  rw [hq]
  clear hq
  have hqb : q + 4 ≤ 512 := by have := HAT.out; have := HQ.out; omega
  obtain ⟨cq, hcq⟩ : ∃ cq, 512 - q = cq := ⟨_, rfl⟩
  rw [hcq]
  have hcq4 : 4 ≤ cq := by omega
  have hcq5 : cq ≤ 512 := by omega
  have hi2 : (2 : Int) ≤ cq := by omega
  have hne : ¬ cq = 2 := by omega
  have hat64 : IntKind.u64.wrap (at_ : Int) = at_ := by rw [IntKind.wrap_u64]; omega
  have hL64 : IntKind.u64.wrap (L : Int) = L := by rw [IntKind.wrap_u64]; omega
  clear hcq
  go_wp2_with fail
  refine (write_any P 113 _ q 2 cq at_ _ HB.out.1 (by rw [HL2.out]; omega) (by omega) (by omega) (by unfold maxLen; omega) (by omega)).mono ?_
  rintro e wd ⟨rfl, hbd, hod⟩
  have HD := Lib.hid hbd
  have HOD := Lib.hid (HOB.out.trans hod)
  clear hbd hod
  go_wp2_with fail
  refine (write_any P 113 _ (q + 2) 2 (cq - 2) L _ HD.out (by rw [← HQ.out, HL3.out]; have := HAT.out; omega) (by omega) (by omega) (by unfold maxLen; omega) (by omega)).mono ?_
  rintro e we ⟨rfl, hbe, hoe⟩
  have HE : Hid (Pg we P (placeL X s at_ vl)) := Lib.hid ⟨by
    unfold placeL
    rw [HVL.out, show 6 + 4 * s = q + 2 by have := HQ.out; omega, HQ.out]
    exact hbe, HLEN.out⟩
  have HOE := Lib.hid (HOD.out.trans hoe)
  clear hbe hoe
  go_wp2_with fail
  exact bodyPost_end (v := .tuple #[]) (by simp [results, Try.results82, go_sem]) rfl ⟨rfl, HE.out, HOE.out⟩
end Go.Proofs.Ytbpgjpopmohbmaa.Mem
