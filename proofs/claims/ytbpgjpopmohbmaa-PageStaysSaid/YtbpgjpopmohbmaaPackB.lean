/- Page.pack. -/
import Derived.Test.YtbpgjpopmohbmaaPackA
import Derived.Laws.Tables
import Derived.Deep.RegionHeld3
namespace Go.Proofs.Ytbpgjpopmohbmaa.Mem
open Go.RowKit Go.Proofs.Ytbpgjpopmohbmaa.Nums
set_option linter.unusedVariables false
set_option linter.unusedSimpArgs false
set_option maxRecDepth 100000
set_option maxHeartbeats 1000000
attribute [local go_sem] neq_nil_nil neq_some_nil
theorem page_size : (Try.prog.info? 113).map (·.size) = some 512 := by kernel_rfl
theorem u8s_all (l : List UInt8) : (u8s l).toArray.all (·.oneCell') = true := by
  rw [Array.all_eq_true_iff_forall_mem]
  intro v hv
  exact u8s_one l v (by simpa using hv)
theorem Only.drewN {w w' : World} {g : Nat} (h : Only g w w') (n : Nat) : Only g w (w'.drewN n) := ⟨h.os, h.tape, h.output, h.size, h.block⟩
theorem pack_pg (P : Nat) (X : List UInt8) (w : World) (hp : Pg w P X) (hk : PkOk X) :
    Calls Try.prog 80 #[.pointer (some ⟨P, 0, none⟩)] w fun e w' => e = .returned (.tuple #[]) ∧ Pg w' P (pk X (slN X)) ∧ Only P w w' := by
  have HP := Lib.hid hp
  have HK := Lib.hid hk
  clear hp hk
  obtain ⟨W, hW⟩ : ∃ W, w.heap.size = W := ⟨_, rfl⟩
  have HW := Lib.hid hW
  clear hW
  go_enter Try.func80, Try.ntmps80
  go_wp2_with (first
    | (refine wpList_load_row rfl 113 (.tmp 6) rfl P rfl 113 (u8s X).toArray (0, 0) _ HP.out.1 Try.underlying113 rfl (by rw [page_size, List.size_toArray, u8s_len, HP.out.2]) ?_)
    | (refine wpList_store_row rfl 113 (.tmp 2) (.tmp 7) rfl w.heap.size (u8s X).toArray rfl rfl 113 Try.zeroCells113 (heap_alloc_new w _) (by rw [page_size, List.size_toArray, u8s_len, HP.out.2]) (by rw [zero_pg, List.size_toArray, u8s_len, List.length_replicate, List.size_toArray, u8s_len, HP.out.2]) (u8s_all X) ?_))
  obtain ⟨w1, hw1⟩ : ∃ w1, (w.alloc (.cells Try.zeroCells113 113)).setRow w.heap.size (u8s X).toArray = w1 := ⟨_, rfl⟩
  rw [hw1, HW.out]
  have HQ1 : Hid (Pg w1 W X) := Lib.hid ⟨by rw [← hw1, ← HW.out]; exact setRow_heap _ _ _ _ _ _ (heap_alloc_new w _), HP.out.2⟩
  have HO1 : Hid (Only P w w1) := Lib.hid (by
    rw [← hw1]
    refine ⟨rfl, rfl, rfl, by rw [size_setRow, size_alloc]; omega, fun k hk _ => ?_⟩
    rw [setRow_other _ _ _ _ (by omega), (Below.heap_alloc w _ k hk)])
  have hPW : P < W := by rw [← HW.out]; exact Blk.lt HP.out.1
  have HP1 : Hid (Pg w1 P X) := Lib.hid ⟨by
    rw [← hw1]
    unfold BB Blk
    rw [setRow_other _ _ _ _ (by rw [HW.out]; omega), (Below.heap_alloc w _ P (by rw [HW.out]; exact hPW))]
    exact HP.out.1, HP.out.2⟩
  clear hw1
  have C1 := Lib.hid (begin_pg W X w1 HQ1.out)
  have e : get2 X 2 = bgN X := rfl
  rw [e] at C1
  have hb1 := HK.out.bg
  have hb2 := HK.out.low
  have HL0 := Lib.hid (pk_len0 HK.out)
  obtain ⟨b, hb⟩ : ∃ b, bgN X = b := ⟨_, rfl⟩
  rw [hb] at hb1 hb2 C1 HL0
  obtain ⟨w2, hca, hba, hoa⟩ := run_clear_bb P 113 X b (512 - b) (512 - b) (w1.drewN 1) (HP1.out.drewN 1).1 (by omega) (by rw [HP1.out.2]; omega)
  have HP2 : Hid (Pg w2 P (lay X b (List.replicate (512 - b) 0))) := Lib.hid ⟨hba, HL0.out⟩
  have HO2 := Lib.hid hoa
  have HB := Lib.hid hb
  have k1 : (0 : Int) ≤ b := Int.natCast_nonneg _
  have k2 : (b : Int) ≤ 512 := by omega
  have k3 : ¬ 512 - b = 0 := by omega
  have k4 : ((512 : Int) - b).toNat = 512 - b := by omega
  have hoq : BB w2 W 113 X := hoa.blk (HQ1.out.drewN 1).1 (by omega)
  clear e hba hoa hb
  have C1' : ∀ n, Calls Try.prog 79 #[.pointer (some ⟨W, 0, none⟩)] (w1.drewN n) fun e w' => e = .returned (.int .i64 b) ∧ w1.drewN n = w' := by
    intro n
    have := begin_pg W X (w1.drewN n) (HQ1.out.drewN n)
    have e : get2 X 2 = b := HB.out
    rwa [e] at this
  have CC := Lib.hid C1'
  clear C1'
  go_region_with (go_at_call 79; refine (CC.out _).mono ?_; rintro e w3 ⟨rfl, rfl⟩)
  clear hca
  go_wp2_with fail
  have HO2 : Hid (Only P w w2) := Lib.hid ((HO1.out.drewN 1).trans HO2.out)
  have HQ2 : Hid (Pg w2 W X) := Lib.hid ⟨hoq, HQ1.out.2⟩
  refine (setBegin_pg P 512 _ _ HP2.out (by omega)).mono ?_
  rintro e w3 ⟨rfl, h3, ho3⟩
  have HP3 : Hid (Pg w3 P (pk X 0)) := Lib.hid (by have e : pk X 0 = lay (lay X b (List.replicate (512 - b) 0)) 2 (nb 512 2) := (by unfold pk; rw [HB.out]); rw [e]; exact h3)
  have HO3 := Lib.hid (HO2.out.trans ho3)
  have HQ3 : Hid (Pg w3 W X) := Lib.hid ⟨ho3.blk HQ2.out.1 (by omega), HQ2.out.2⟩
  clear h3 ho3 hoq
  go_wp2_with fail
  refine (slots_pg W X w3 HQ3.out).mono ?_
  rintro e w4 ⟨rfl, rfl⟩
  have e : get2 X 0 = slN X := rfl
  rw [e]
  clear e
  obtain ⟨G, hG⟩ : ∃ G, slN X = G := ⟨_, rfl⟩
  have HG := Lib.hid hG
  rw [hG]
  have htop := HK.out.fine.top
  rw [hG] at htop hb2
  clear hG
  go_wp2_with fail
  go_loopw [16] (fun i wr => ∃ k : Nat, k ≤ G ∧ i = .int .i64 k ∧ Pg wr P (pk X k) ∧ Pg wr W X ∧ Only P w wr) (fun i _ => G - (intOf i).toNat)
  case atStart => exact ⟨0, by omega, rfl, HP3.out, HQ3.out, HO3.out⟩
  case round =>
    obtain ⟨k, hk, rfl, hpk, hqk, hok⟩ := hrel
    have HPK := Lib.hid hpk
    have HQK := Lib.hid hqk
    have HOK := Lib.hid hok
    clear hpk hqk hok
    by_cases hlt : k < G
    · have hlt' : (k : Int) < G := by omega
      have CA := Lib.hid (at_pg W k X wr HQK.out HK.out.fine (by rw [HG.out]; exact hlt))
      by_cases hz : szS X k = 0
      · rw [atV_free hz] at CA
        have HE : Hid (pk X (k + 1) = pk X k) := Lib.hid (by show (if szS X k = 0 then _ else _) = _; rw [if_pos hz])
        clear hz
        go_wp2_with fail
        refine CA.out.mono ?_
        rintro e w5 ⟨rfl, m, rfl⟩
        go_wp2_with fail
        go_roundw
        case rel => exact ⟨k + 1, by omega, by go_num, by rw [HE.out]; exact HPK.out.drewN m, HQK.out.drewN m, HOK.out.trans ⟨rfl, rfl, rfl, Nat.le_refl _, fun _ _ _ => rfl⟩⟩
        case measure => simp [intOf]; omega
      · rw [atV_some hz] at CA
        have hfit := HK.out.fine.fit k (by rw [HG.out]; exact hlt)
        have hsum := HK.out.sum
        have hm := suN_mono X (show k + 1 ≤ slN X by rw [HG.out]; omega)
        have hs1 : suN X (k + 1) = suN X k + szS X k := rfl
        have hbg := pk_bgN HK.out (k := k) (by rw [HG.out]; omega)
        have HE : Hid (pk X (k + 1) = placeL (pk X k) k (512 - suN X (k + 1)) (sub X (frS X k) (szS X k))) := Lib.hid (by show (if szS X k = 0 then _ else _) = _; rw [if_neg hz])
        have hsl : (sub X (frS X k) (szS X k)).length = szS X k := sub_len (by rw [HK.out.len]; exact hfit)
        rw [HG.out] at hsum hm
        have CPL : ∀ m, Calls Try.prog 82 #[.pointer (some ⟨P, 0, none⟩), .int .i64 k, .slice (some ⟨W, frS X k, none⟩) (szS X k) (512 - frS X k : Nat)] (wr.drewN m) fun e w' => e = .returned (.tuple #[]) ∧ Pg w' P (placeL (pk X k) k (512 - suN X (k + 1)) (sub X (frS X k) (szS X k))) ∧ Only P (wr.drewN m) w' := fun m =>
          place_pg P k (512 - suN X (k + 1)) (szS X k) (512 - frS X k) (pk X k) (sub X (frS X k) (szS X k)) ⟨W, frS X k, none⟩ (wr.drewN m) (HPK.out.drewN m) (by rw [hbg]; omega) (by omega) hsl (by omega) (by omega) (fun j v hv => by
            have := (BB.at_ (HQK.out.drewN m).1 (frS X k) (szS X k)).2 j v hv
            exact this)
        have HCPL := Lib.hid CPL
        clear CPL hsl hbg hs1 hm hsum hfit hz
        generalize frS X k = F at *
        generalize szS X k = Z at *
        go_wp2_with fail
        refine CA.out.mono ?_
        rintro e w5 ⟨rfl, m, rfl⟩
        go_wp2_with fail
        refine (HCPL.out m).mono ?_
        rintro e w6 ⟨rfl, h6, ho6⟩
        rw [← HE.out] at h6
        have H6 := Lib.hid h6
        have HO6 := Lib.hid ho6
        clear h6 ho6
        go_wp2_with fail
        go_roundw
        case rel =>
          have ho := HO6.out
          exact ⟨k + 1, by omega, by go_num, H6.out, ⟨ho.blk (HQK.out.drewN m).1 (by omega), HQK.out.2⟩, (HOK.out.drewN m).trans ho⟩
        case measure => simp [intOf]; omega
    · obtain rfl : k = G := by omega
      go_wp2_with fail
      exact bodyPost_end (v := .tuple #[]) (by simp [results, Try.results80, go_sem]) rfl ⟨rfl, by rw [HG.out]; exact HPK.out, HOK.out⟩
end Go.Proofs.Ytbpgjpopmohbmaa.Mem
