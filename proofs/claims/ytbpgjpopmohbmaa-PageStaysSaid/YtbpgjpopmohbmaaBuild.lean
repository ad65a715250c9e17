/- lapidarylaw05.build. -/
import Derived.Test.YtbpgjpopmohbmaaDo
import Derived.Test.YtbpgjpopmohbmaaOpenO
import Derived.Test.YtbpgjpopmohbmaaPageK
namespace Go.Proofs.Ytbpgjpopmohbmaa.Mem
open Go.RowKit Go.Proofs.Ytbpgjpopmohbmaa.Nums
set_option linter.unusedVariables false
set_option linter.unusedSimpArgs false
set_option maxRecDepth 100000
set_option maxHeartbeats 2000000
theorem do_any {w wr : World} {P R st : Nat} {L : SL} (h : Duo w wr P R L st) (o : Op5) (hok : o.ok wr) (h7 : ¬ o.z % 8 = 7) :
    Calls Try.prog 17 #[.pointer (some ⟨P, 0, none⟩), .pointer (some ⟨R, 0, none⟩), .agg #[.int .u8 o.z, .int .i64 o.i, .int .u64 o.r, .int .u64 o.a, .int .u64 o.b, .int .i64 o.p, .int .i64 o.s, .slice o.A o.n o.c]] wr fun e w' => e = .returned (.tuple #[.pointer (some ⟨P, 0, none⟩), .bool true]) ∧ ∃ L' st', Duo w w' P R L' st' := by
  have e : Int.tmod o.z 8 = o.z % 8 := Int.tmod_eq_emod_of_nonneg hok.z.1
  by_cases h4 : o.z % 8 = 4
  · exact do_stamp h o.z o.i o.r o.a o.b o.p o.s o.x hok.len hok.sl hok.r hok.a hok.b hok.z (by rw [e]; exact h4)
  · by_cases h5 : o.z % 8 = 5
    · exact do_free5 h o.z o.i o.r o.a o.b o.p o.s o.x hok.len hok.sl hok.r hok.a hok.b hok.z (by rw [e]; exact h5)
    · by_cases h6 : o.z % 8 = 6
      · exact do_free6 h o.z o.i o.r o.a o.b o.p o.s o.x hok.len hok.sl hok.r hok.a hok.b hok.z (by rw [e]; exact h6)
      · exact do_ins h o.z o.i o.r o.a o.b o.p o.s o.x hok.len hok.sl hok.r hok.a hok.b hok.z h4 h5 h6 h7
theorem Op5.ok.below {o : Op5} {w w' : World} (h : o.ok w) (hb : Below w.heap.size w w') : o.ok w' := ⟨h.z, h.i, h.r, h.a, h.b, h.len, h.sl.on hb⟩
theorem duo_new (w wr : World) (hb0 : Below w.heap.size w wr) :
    ∀ w1 w2, Hp w1 wr.heap.size [] 512 → Below wr.heap.size wr w1 → RfA w2 (fun g => g = w1.heap.size) w1.heap.size [] 512 none 0 → Below w1.heap.size w1 w2 → Duo w w2 wr.heap.size w1.heap.size [] 512 := fun w1 w2 hp hb1 hr hb2 =>
  ⟨hp.below hb2 hp.lt, ⟨_, [], none, 0, rfl, hr, (fun e => by have := hp.lt; omega), fun g hg => by subst hg; exact Nat.le_trans hb0.size hb1.size⟩, hb0.size, (hb0.trans (hb1.mono hb0.size)).trans (hb2.mono (Nat.le_trans hb0.size hb1.size))⟩
theorem build_any (w : World) (l : List Op5) (A : Option Addr) (n c : Nat) (hl : l.length = n) (hs : Sl w w.heap.size 8 A n c (ops5 l)) (hok : ∀ o ∈ l, o.ok w) (most : Int) (hm : 0 ≤ most ∧ most ≤ 1000) :
    Calls Try.prog 36 #[.slice A n c, .int .i64 most] w fun e w' => ∃ P R L st, e = .returned (.pointer (some ⟨P, 0, none⟩)) ∧ Duo w w' P R L st := by
  have hcap := hs.cap
  have hle := hs.le
  unfold maxLen at hcap
  have HS := Lib.hid hs
  have HL := Lib.hid hl
  have HOK := Lib.hid hok
  clear hs hl hok
  go_enter Try.func36, Try.ntmps36
  go_wp2_with fail
  refine (new_has w).mono ?_
  rintro e w1 ⟨rfl, hp1, hb1⟩
  go_wp2_with fail
  refine (rnew_any w1).mono ?_
  rintro e w2 ⟨rfl, hr2, hb2⟩
  have HD := Lib.hid (duo_new w w (Below.refl _ _) w1 w2 hp1 hb1 hr2 hb2)
  obtain ⟨P, hP⟩ : ∃ P, w.heap.size = P := ⟨_, rfl⟩
  obtain ⟨R, hR⟩ : ∃ R, w1.heap.size = R := ⟨_, rfl⟩
  rw [hP, hR] at HD
  rw [hP, hR]
  clear hp1 hb1 hr2 hb2 hP hR
  go_wp2_with fail
  go_loopw [5, 13] (fun pv i wl => ∃ (k : Nat) (L : SL) (st : Nat), k ≤ n ∧ pv = .pointer (some ⟨P, 0, none⟩) ∧ i = .int .i64 k ∧ Duo w wl P R L st) (fun _ i _ => n - (intOf i).toNat)
  case atStart => exact ⟨0, [], 512, by omega, rfl, rfl, HD.out⟩
  case round =>
    obtain ⟨k, L, st, hk, rfl, rfl, hd⟩ := hrel
    have HK := Lib.hid hd
    clear hd HD
    by_cases hlt : k < n
    · have hlt' : (k : Int) < n := by omega
      obtain ⟨o, ho⟩ : ∃ o, l[k]? = some o := ⟨_, List.getElem?_eq_getElem (by rw [HL.out]; exact hlt)⟩
      have hokw := (HOK.out o (List.mem_of_getElem? ho)).below HK.out.2.2.2
      have HOW := Lib.hid hokw
      obtain ⟨ad, rfl, y0, y1, y2, y3, y4, y5, y6, y7⟩ := op5_cells HS.out HK.out.2.2.2 ho HL.out
      obtain ⟨W, hW⟩ : ∃ W, wr.alloc (.cells #[.int .u8 o.z, .int .i64 o.i, .int .u64 o.r, .int .u64 o.a, .int .u64 o.b, .int .i64 o.p, .int .i64 o.s, .slice o.A o.n o.c] 35) = W := ⟨_, rfl⟩
      have HB := Lib.hid (bel_alloc wr (.cells #[.int .u8 o.z, .int .i64 o.i, .int .u64 o.r, .int .u64 o.a, .int .u64 o.b, .int .i64 o.p, .int .i64 o.s, .slice o.A o.n o.c] 35))
      rw [hW] at HB
      have HW := Lib.hid hW
      have hz := hokw.z
      have e : Int.tmod o.z 8 = o.z % 8 := Int.tmod_eq_emod_of_nonneg hz.1
      clear hW ho hokw
      by_cases hmk : (k : Int) < most
      · by_cases h7 : o.z % 8 = 7
        · have e7 : (o.z % 8 == 7) = true := by rw [beq_iff_eq]; exact h7
          go_wp2_with fail
          go_roundw
          case rel => exact ⟨k + 1, L, st, by omega, rfl, by go_num, by first | exact HK.out.below (bel_alloc _ _) | (rw [HW.out]; exact HK.out.below HB.out)⟩
          case measure => simp [intOf]; omega
        · have e7 : (o.z % 8 == 7) = false := beq_eq_false_iff_ne.2 h7
          go_wp2_with fail
          rw [HW.out]
          refine (do_any (HK.out.below HB.out) o (HOW.out.below HB.out) h7).mono ?_
          rintro e w5 ⟨rfl, L', st', hd5⟩
          have HD5 := Lib.hid hd5
          clear hd5
          go_wp2_with fail
          go_roundw
          case rel => exact ⟨k + 1, L', st', by omega, rfl, by go_num, HD5.out⟩
          case measure => simp [intOf]; omega
      · go_wp2_with fail
        go_roundw
        case rel => exact ⟨k + 1, L, st, by omega, rfl, by go_num, by first | exact HK.out.below (bel_alloc _ _) | (rw [HW.out]; exact HK.out.below HB.out)⟩
        case measure => simp [intOf]; omega
    · obtain rfl : k = n := by omega
      go_wp2_with fail
      go_ret
      exact ⟨P, R, L, st, rfl, HK.out⟩
end Go.Proofs.Ytbpgjpopmohbmaa.Mem
