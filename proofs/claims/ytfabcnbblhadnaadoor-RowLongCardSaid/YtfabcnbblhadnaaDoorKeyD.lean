/- key.Read. -/
import Derived.Test.YtfabcnbblhadnaaDoorKeyF
namespace Go.Proofs.YtfabcnbblhadnaaDoor.Mem
open Go.RowKit Go.Proofs.YtfabcnbblhadnaaDoor.Nums
open Go.Proofs.YtfabcnbblhadnaaDoor.Cell (U8)
set_option linter.unusedVariables false
set_option linter.unusedSimpArgs false
set_option maxRecDepth 100000
theorem first_any (b : UInt8) (r : List UInt8) (B : Nat) (ad : Addr) (m c : Nat) (w : World) (hB : B ≤ w.heap.size) (hn : m + 1 ≤ 1000000) (hx : Sl w B 1 (some ad) (m + 1) c (u8s (b :: r))) (hU : U8 w) :
    Calls Tryd.prog 40 #[.slice (some ad) (m + 1 : Nat) c] w (FPost B (fFirst (b :: r)) w) := by
  by_cases hc : c = 1
  · by_cases h1 : (b.toNat : Int) = 1
    · exact first_null1 b r B ad m c w hB hn hx hU hc h1
    by_cases h2 : (b.toNat : Int) = 2
    · exact first_bool1 b r B ad m c w hB hn hx hU hc h2
    by_cases h3 : (b.toNat : Int) = 3
    · exact first_num1 b r B ad m c w hB hn hx hU hc h3
    by_cases h4 : (b.toNat : Int) = 4
    · exact first_text1 b r B ad m c w hB hn hx hU hc h4
    exact first_no1 b r B ad m c w hB hn hx hU hc (beq_eq_false_iff_ne.2 h1) (beq_eq_false_iff_ne.2 h2) (beq_eq_false_iff_ne.2 h3) (beq_eq_false_iff_ne.2 h4)
  · by_cases h1 : (b.toNat : Int) = 1
    · exact first_null b r B ad m c w hB hn hx hU hc h1
    by_cases h2 : (b.toNat : Int) = 2
    · exact first_bool b r B ad m c w hB hn hx hU hc h2
    by_cases h3 : (b.toNat : Int) = 3
    · exact first_num b r B ad m c w hB hn hx hU hc h3
    by_cases h4 : (b.toNat : Int) = 4
    · exact first_text b r B ad m c w hB hn hx hU hc h4
    exact first_no b r B ad m c w hB hn hx hU hc (beq_eq_false_iff_ne.2 h1) (beq_eq_false_iff_ne.2 h2) (beq_eq_false_iff_ne.2 h3) (beq_eq_false_iff_ne.2 h4)
theorem fFirst_lt {x r : List UInt8} {v : V} (h : fFirst x = some (v, r)) : r.length < x.length := by
  cases x with
  | nil => cases h
  | cons b x =>
    rw [List.length_cons]
    change fMark b.toNat x = _ at h
    unfold fMark at h
    split at h
    · injection h with h; injection h with _ h; subst h; omega
    split at h
    · cases x with
      | nil => cases h
      | cons a x =>
        change (if _ then _ else _) = _ at h
        split at h
        · injection h with h; injection h with _ h; subst h; rw [List.length_cons]; omega
        · cases h
    split at h
    · unfold fNum at h
      split at h
      · injection h with h; injection h with _ h; subst h; rw [List.length_drop]; omega
      · cases h
    split at h
    · unfold fText at h
      split at h
      · split at h
        · injection h with h; injection h with _ h; subst h; rw [List.length_drop]; omega
        · cases h
      · cases h
    · cases h
/-- the row of which bytes are the bytes, if they are -/
def readL (x : List UInt8) : Option (List V) :=
  if x = [] then some [] else
  match h : fFirst x with
  | none => none
  | some (v, r) => (readL r).map (v :: ·)
termination_by x.length
decreasing_by exact fFirst_lt h
theorem readL_nil : readL [] = some [] := by rw [readL, if_pos rfl]
theorem readL_none {b : UInt8} {x : List UInt8} (h : fFirst (b :: x) = none) : readL (b :: x) = none := by
  rw [readL, if_neg (by simp)]
  split
  · rfl
  · rename_i h2; rw [h] at h2; cases h2
theorem readL_some {b : UInt8} {x r : List UInt8} {v : V} (h : fFirst (b :: x) = some (v, r)) : readL (b :: x) = (readL r).map (v :: ·) := by
  rw [readL, if_neg (by simp)]
  split
  · rename_i h2; rw [h] at h2; cases h2
  · rename_i v2 r2 h2
    rw [h] at h2
    injection h2 with h2
    injection h2 with h2 h3
    subst h2 h3
    rfl
def RPost (r : Option (List V)) (w : World) (e : Ending) (w' : World) : Prop :=
  Below w.heap.size w w' ∧ match r with
  | some l => ∃ p, e = .returned (.tuple #[p, .int .i64 0]) ∧ OwnV w' w.heap.size p l.length (vals l)
  | none => e = .returned (.tuple #[.slice none 0 0, .int .i64 3])
def sLen : Value → Nat
  | .slice _ n _ => n
  | _ => 0
theorem own_eqV {w : World} {B : Nat} {v : Value} {n n' : Nat} {xs xs' : List Value} (h : OwnV w B v n xs) (hn : n = n') (hx : xs = xs') : OwnV w B v n' xs' := by subst hn hx; exact h
theorem kread_any (x : List UInt8) (A : Option Addr) (n c : Nat) (w : World) (hn : n ≤ 1000000) (hx : Sl w w.heap.size 1 A n c (u8s x)) (hU : U8 w) :
    Calls Tryd.prog 19 #[.slice A n c] w (RPost (readL x) w) := by
  have HL := Lib.hid (len_of hx)
  have HX := Lib.hid hx
  have HU := Lib.hid hU
  clear hx hU
  go_enter Tryd.func19, Tryd.ntmps19
  go_wp2_with fail
  go_loopw [0, 4] (fun p l wr => ∃ (y : List UInt8) (ds : List V) (A' : Option Addr) (n' c' : Nat), p = .slice A' n' c' ∧ y.length = n' ∧ n' + ds.length ≤ n ∧ Sl wr w.heap.size 1 A' n' c' (u8s y) ∧ OwnV wr w.heap.size l ds.length (vals ds) ∧ readL x = (readL y).map (ds ++ ·) ∧ Below w.heap.size w wr) (fun p _ _ => sLen p)
  case atStart => exact ⟨x, [], A, n, c, rfl, HL.out, by simp, HX.out, World.ownsRow_nil _ _ _ _, by simp, Below.refl _ _⟩
  case round =>
    obtain ⟨y, ds, A', n', c', rfl, hyl, hnd, hsl, hown, hread, hbr⟩ := hrel
    have HS := Lib.hid hsl
    have HO := Lib.hid hown
    have HR := Lib.hid hread
    have HB := Lib.hid hbr
    have hsz := hbr.size
    clear hsl hown hread hbr
    cases y with
    | nil =>
      obtain rfl : n' = 0 := by rw [← hyl]; rfl
      rw [readL_nil] at HR
      simp only [Option.map_some, List.append_nil] at HR
      clear hyl
      go_wp2_with fail
      go_ret2
      refine ⟨HB.out, ?_⟩
      rw [HR.out]
      exact ⟨_, rfl, HO.out⟩
    | cons b r =>
      obtain ⟨m, rfl⟩ : ∃ m, n' = m + 1 := ⟨n' - 1, by have : (b :: r).length = r.length + 1 := rfl; omega⟩
      obtain ⟨ad, hA, _⟩ := HS.out.at_ (by omega)
      subst hA
      have C := Lib.hid (first_any b r w.heap.size ad m c' wr hsz (by omega) HS.out (HU.out.below HB.out))
      obtain ⟨R, hR⟩ : ∃ R, fFirst (b :: r) = R := ⟨_, rfl⟩
      rw [hR] at C
      have HFR := Lib.hid hR
      clear hR
      go_wp2_with fail
      refine C.out.mono ?_
      rintro e w3 ⟨hb3, h3⟩
      have HB3 := Lib.hid hb3
      have hsz3 := hb3.size
      clear hb3 C
      cases R with
      | none =>
        simp only at h3
        subst h3
        have HN := readL_none HFR.out
        rw [HN] at HR
        simp only [Option.map_none] at HR
        clear HN
        go_wp2_with fail
        go_ret2
        refine ⟨(HB.out.trans (HB3.out.mono hsz)).trans ((Cell.bel_alloc w3 _).mono (by omega)), ?_⟩
        rw [HR.out]
        exact rfl
      | some vr =>
        obtain ⟨⟨vk, vi, vs, vb⟩, rest⟩ := vr
        simp only at h3
        obtain ⟨A3, n3, c3, rfl, hlr, hs⟩ := h3
        have hlt := fFirst_lt HFR.out
        rw [hlr, hyl] at hlt
        have HSR := Lib.hid hs
        have HLR := Lib.hid hlr
        have HN := Lib.hid (readL_some HFR.out)
        have HX3 := Lib.hid (ValAt.new w3 ⟨vk, vi, vs, vb⟩ 43)
        obtain ⟨y0, y1, y2, y3⟩ := HX3.out
        have HO3 := Lib.hid (ownV_kept HO.out HB3.out)
        clear hs hlr HFR
        simp only [V.val]
        go_wp2_with (at_builtin; refine wpl_app_v rfl (.tmp 19) (.tmp 21) rfl w.heap.size u4 _ _ rfl ((HO3.out.alloc _).alloc _) _ _ 1 _ rfl (lies_at _ _ _ 4 1 (w3.heap.size + 1) (size_alloc _ _) rfl) (one4 _ _ _ _) (by omega) (by rw [size_alloc, size_alloc]; omega) ?_; intro v5 w5 hown5 hgrow5)
        have hb5 := own_below hgrow5 (by rw [size_alloc, size_alloc]; omega) ((HO3.out.alloc _).alloc _)
        have HB5 := Lib.hid ((((HB3.out.mono hsz).trans ((Cell.bel_alloc w3 _).mono (by omega))).trans ((Cell.bel_alloc _ _).mono (by rw [size_alloc]; omega))).trans hb5)
        have HO5 := Lib.hid hown5
        clear hown5 hgrow5 hb5
        go_wp2_with fail
        go_roundw
        case rel =>
          refine ⟨rest, ds ++ [⟨vk, vi, vs, vb⟩], A3, n3, c3, rfl, HLR.out, ?_, HSR.out.below HB5.out, own_eqV HO5.out ?_ ?_, ?_, HB.out.trans HB5.out⟩
          · rw [List.length_append, List.length_singleton]; omega
          · rw [List.length_append, List.length_singleton]
          · rw [vals_app]; rfl
          · rw [HR.out, HN.out, Option.map_map]
            congr 1
            funext l
            simp
        case measure => simp [sLen]; omega
end Go.Proofs.YtfabcnbblhadnaaDoor.Mem
