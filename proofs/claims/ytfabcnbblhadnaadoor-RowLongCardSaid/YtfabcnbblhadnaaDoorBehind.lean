/- key.Behind: what it leaves of the bytes. -/
import Derived.Test.YtfabcnbblhadnaaDoorRef3
namespace Go.Proofs.YtfabcnbblhadnaaDoor.Mem
open Go.RowKit Go.Proofs.YtfabcnbblhadnaaDoor.Nums
set_option linter.unusedVariables false
set_option linter.unusedSimpArgs false
set_option maxRecDepth 100000
/-- y is x without its bytes ff at the end, the last byte one more; nothing, if nothing is left -/
def Beh (x y : List UInt8) : Prop :=
  ∃ k, k ≤ x.length ∧ (∀ j, k ≤ j → j < x.length → x[j]? = some 255) ∧ ((k = 0 ∧ y = []) ∨ (∃ m b, k = m + 1 ∧ x[m]? = some b ∧ b.toNat ≤ 254 ∧ y = x.take m ++ [UInt8.ofNat (b.toNat + 1)]))
def BehPost (x : List UInt8) (w : World) (e : Ending) (w' : World) : Prop := ∃ v y, e = .returned v ∧ Beh x y ∧ OwnB w' w.heap.size v y.length (u8s y) ∧ Below w.heap.size w w'
theorem u8s_at {w : World} {B : Nat} {ad : Addr} {x : List UInt8} (h : At w B ad (u8s x)) {j : Nat} {b : UInt8} (hb : x[j]? = some b) : w.cell? (ad.add j) = some (.int .u8 (b.toNat : Int)) :=
  h.2 j _ (by simp [u8s, hb])
theorem set_last (x : List UInt8) (m : Nat) (b c : UInt8) (h : x[m]? = some b) : (u8s (x.take (m + 1))).set m (.int .u8 (c.toNat : Int)) = u8s (x.take m ++ [c]) := by
  have hm : m < x.length := (List.getElem?_eq_some_iff.1 h).1
  rw [take_succ_of h, u8s_app, u8s_app, List.set_append_right _ _ (by rw [u8s_len, List.length_take]; omega)]
  rw [u8s_len, List.length_take, Nat.min_eq_left (by omega), Nat.sub_self]
  rfl
theorem behind_any (x : List UInt8) (A : Option Addr) (n c : Nat) (w : World) (hx : Sl w w.heap.size 1 A n c (u8s x)) (hn : n ≤ 1000000) :
    Calls Tryd.prog 27 #[.slice A n c] w (BehPost x w) := by
  have hc := hx.cap
  have hle := hx.le
  unfold maxLen at hc
  have HL : Hid (x.length = n) := Lib.hid (by have := hx.len; rw [u8s_len] at this; omega)
  have HX := Lib.hid hx
  clear hx
  go_enter Tryd.func27, Tryd.ntmps27
  go_wp2_with fail
  go_loop [3] (fun t => ∃ k : Nat, k ≤ n ∧ t = .int .i64 k ∧ ∀ j, k ≤ j → j < n → x[j]? = some 255) (fun t => (intOf t).toNat)
  case atStart => exact ⟨n, by omega, rfl, fun j h1 h2 => by omega⟩
  case round =>
    obtain ⟨k, hk, rfl, hall⟩ := hrel
    have HF := Lib.hid hall
    clear hall
    cases k with
    | zero =>
      go_wp2_with fail
      go_ret
      exact ⟨_, [], rfl, ⟨0, by omega, fun j h1 h2 => HF.out j h1 (by rw [← HL.out]; exact h2), .inl ⟨rfl, rfl⟩⟩, World.ownsRow_nil _ _ _ _, Below.refl _ _⟩
    | succ m =>
      obtain ⟨b, hb⟩ : ∃ b, x[m]? = some b := ⟨_, List.getElem?_eq_getElem (by rw [HL.out]; omega)⟩
      obtain ⟨ad, hA, hAt⟩ := HX.out.at_ (by omega)
      subst hA
      have x0 := u8s_at hAt hb
      have HAt := Lib.hid hAt
      have Hb := Lib.hid hb
      have hm : (m : Int) < n := by omega
      have hbl := b.toNat_lt
      clear hAt hb
      by_cases h255 : b = 255
      · have hbt : ((b.toNat : Int) == 255) = true := by subst h255; rfl
        have Hb2 := Lib.hid h255
        clear h255
        go_wp2_with fail
        go_round
        case rel =>
          refine ⟨m, by omega, by go_num, fun j h1 h2 => ?_⟩
          by_cases hj : j = m
          · subst hj; rw [Hb.out, Hb2.out]
          · exact HF.out j (by omega) h2
        case measure => simp [intOf]
      · have hb254 : b.toNat ≤ 254 := by
          rcases Nat.lt_or_ge b.toNat 255 with h | h
          · omega
          · exact absurd (UInt8.toNat_inj.1 (show b.toNat = (255 : UInt8).toNat by show _ = 255; omega)) h255
        have hbt : ((b.toNat : Int) == 255) = false := by simp; omega
        have hbi : (b.toNat : Int) ≤ 254 := by omega
        clear h255
        go_wp2_with fail
        have hxs : ((x.take (m + 1)).map fun b => (b.toNat : Int)).length = m + 1 := by rw [List.length_map, List.length_take, HL.out]; omega
        refine (Tryd.bytes_Clone_at ad (m + 1) c ((x.take (m + 1)).map fun b => (b.toNat : Int)) _ hxs (by omega) ?_).mono ?_
        · intro i hi
          obtain ⟨b', hb'⟩ : ∃ b', x[i]? = some b' := ⟨_, List.getElem?_eq_getElem (by rw [HL.out]; omega)⟩
          rw [u8s_at HAt.out hb']
          congr 2
          simp [List.getD, List.getElem?_map, List.getElem?_take, hi, hb']
        rintro e w2 ⟨v2, rfl, hown2, hv2, hb2⟩
        have hown3 : OwnB w2 w.heap.size v2 (m + 1) (u8s (x.take (m + 1))) := by
          have : (u8s (x.take (m + 1))) = ((x.take (m + 1)).map fun b => (b.toNat : Int)).map (Value.int .u8) := by unfold u8s; rw [List.map_map]; rfl
          rw [this]; exact hown2
        clear hown2 hxs hv2
        obtain ⟨g, cap, hv, hgB, hgl⟩ := World.ownsRow.form hown3 (by omega)
        subst hv
        have y0 : w2.cell? ⟨g, m, none⟩ = some (.int .u8 (b.toNat : Int)) := by
          rw [World.ownsRow.cellAt hown3 m (by omega)]
          simp [u8s, List.getElem?_map, List.getElem?_take, Hb.out]
        have y1 : w2.frozen? ⟨g, m, none⟩ = false := World.ownsRow.frozenAt hown3 m
        have hst := (World.ownsRow.stored hown3 m (.int .u8 (((UInt8.ofNat (b.toNat + 1)).toNat : Nat) : Int)))
        have hn1 : (((UInt8.ofNat (b.toNat + 1)).toNat : Nat) : Int) = (b.toNat : Int) + 1 := by rw [ofNat_int]; omega
        rw [hn1] at hst
        have HST := Lib.hid hst
        have HB2 := Lib.hid hb2
        have HN1 := Lib.hid hn1
        clear hst hb2 hn1 hown3 x0
        go_wp2_with fail
        go_ret
        refine ⟨_, x.take m ++ [UInt8.ofNat (b.toNat + 1)], rfl, ⟨m + 1, by rw [HL.out]; omega, fun j h1 h2 => HF.out j h1 (by rw [← HL.out]; exact h2), .inr ⟨m, b, rfl, Hb.out, hb254, rfl⟩⟩, ?_, HB2.out.setCell (p := ⟨g, m, none⟩) hgB _⟩
        have h := set_last x m b (UInt8.ofNat (b.toNat + 1)) Hb.out
        rw [HN1.out] at h
        have hlen : (x.take m ++ [UInt8.ofNat (b.toNat + 1)]).length = m + 1 := by rw [List.length_append, List.length_take, HL.out, Nat.min_eq_left (by omega)]; rfl
        rw [hlen, ← h]
        exact HST.out.1
end Go.Proofs.YtfabcnbblhadnaaDoor.Mem
