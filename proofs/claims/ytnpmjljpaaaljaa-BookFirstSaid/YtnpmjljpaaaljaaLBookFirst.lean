/- BookFirst: its walk. -/
import Derived.Test.YtnpmjljpaaaljaaBookS
import Derived.Test.YtnpmjljpaaaljaaOpenQ
namespace Go.Proofs.Ytnpmjljpaaaljaa.Bok
open Go.ChangeMaps Go.MapKept Go.RowKit Go.Proofs.Ytnpmjljpaaaljaa.Nums Go.Proofs.Ytnpmjljpaaaljaa.Mem Go.Proofs.Ytnpmjljpaaaljaa.Clg
set_option linter.unusedVariables false
set_option linter.unusedSimpArgs false
set_option maxRecDepth 100000
set_option maxHeartbeats 4000000
theorem ka_none (g : Nat) (h : KA No none 0 0 g) : No g := h.elim id (fun e => by simp [Value.ownBlock] at e)
theorem ls_new {w0 w : World} {K : Nat → Prop} {P B last : Nat} {S : List Nat} {ts : List Tb} (h : J w0 w K P B S ts [] last) : LS w0 w No P B S ts [] last none 0 0 [] :=
  ⟨h.less fun g hg => (ka_none g hg).elim, World.ownsRow_nil _ _ _ _, rfl, fun g hg => by simp [Value.ownBlock] at hg, fun s hs => by cases hs⟩
theorem J.aborted {w0 w : World} {K : Nat → Prop} {P B last x : Nat} {S : List Nat} {ts : List Tb} {xs : List Ix} (h : J w0 w K P B S ts xs last) (hx : x < 18446744073709551616) (hr : stOf 1 S x = 1) : Calls Try.prog 26 #[.pointer (some ⟨P, 0, none⟩), .int .u64 (x : Int)] w fun e w' => (∃ r : Int, e = .returned (.int .i64 r)) ∧ GoJ w0 w K P B (endS 1 S x 3) ts xs last w' :=
  (j_abort h hx).mono fun e w' h => ⟨⟨_, h.1⟩, h.2⟩
theorem first_walk (w : World) (nz : Int) (drop : Bool) (l : List Bq) (A2 : Option Addr) (n2 c2 : Nat) (hn : 0 ≤ nz ∧ nz ≤ 255) (hl : l.length = n2) (hs : Sl w w.heap.size 1 A2 n2 c2 (bq_s l)) (hok : ∀ o ∈ l, o.ok) :
    Calls Try.prog 9 #[.int .u8 nz, .bool drop, .slice A2 n2 c2] w fun e w' => e = .returned (.bool true) ∧ Below w.heap.size w w' := by
  obtain ⟨nn, rfl⟩ : ∃ nn : Nat, nz = nn := ⟨nz.toNat, by omega⟩
  obtain ⟨m0, hm0⟩ : ∃ m0, nn % 8 = m0 := ⟨_, rfl⟩
  have hm8 : m0 < 8 := by omega
  have e1 : Int.tmod (nn : Int) 8 = m0 := by rw [← hm0]; exact (Int.ofNat_tmod nn 8).symm
  have e2 : (nn : Int) % 8 = m0 := by omega
  obtain ⟨k, hk⟩ : ∃ k, 2 + m0 = k := ⟨_, rfl⟩
  have e3 : (2 : Int) + (m0 : Int) = k := by omega
  have HK : Hid (2 ≤ k ∧ k ≤ 9) := Lib.hid (by omega)
  have hk9 : k ≤ 9 := by omega
  have hn0 := hn.1
  have hn1 := hn.2
  have hm0n : (0 : Int) ≤ m0 := by omega
  have hm0b : (m0 : Int) ≤ 7 := by omega
  have hcap2 := hs.cap
  have hle2 := hs.le
  unfold maxLen at hcap2
  have HSL := Lib.hid hs
  have HLL := Lib.hid hl
  clear hn hm0 hk hm8 hs hl hok
  go_enter Try.func9, Try.ntmps9
  go_wp2_with fail
  refine (awake_b _).mono ?_
  rintro e w1 ⟨rfl, hb1⟩
  have HB1 := Lib.hid hb1
  clear hb1
  go_wp2_with fail
  refine (new_any w1 1 (by omega) (by omega)).mono ?_
  rintro e w2 ⟨F1, P, rfl, hl1, hf1, hb2⟩
  have CN := Lib.hid (j_new (w0 := w) hl1 (fun g hg => Nat.le_trans HB1.out.size (hf1 g hg)) (HB1.out.trans (hb2.mono HB1.out.size)))
  clear hl1 hf1 hb2
  go_wp2_with fail
  refine CN.out.mono ?_
  rintro e w3 ⟨B, rfl, hj3, _⟩
  have CB1 : Hid (Calls Try.prog 25 #[.pointer (some ⟨P, 0, none⟩)] w3 fun e w' => e = .returned (.tuple #[.int .u64 1, .int .i64 0]) ∧ GoJ w w3 No P B [1] [] [] 0 w') := Lib.hid (j_begin hj3 (by simp))
  clear hj3 CN
  go_wp2_with fail
  refine CB1.out.mono ?_
  rintro e w4 ⟨rfl, hj4, _, _⟩
  have HJ4 := Lib.hid hj4
  clear hj4 CB1 HB1
  cases drop
  · have CM : Hid (Calls Try.prog 27 #[.pointer (some ⟨P, 0, none⟩), .int .u64 1] w4 fun e w' => e = .returned (.int .i64 0) ∧ GoJ w w4 No P B [2] [] [] 0 w') := Lib.hid (j_commit HJ4.out 1)
    go_wp2_with fail
    refine CM.out.mono ?_
    rintro e w5 ⟨rfl, hj5, _, _⟩
    have L0 := Lib.hid (ls_new hj5)
    clear hj5 CM HJ4
    have F0 : Hid (StF [2] 0 0) := Lib.hid ⟨rfl, rfl, fun a h1 h2 => by omega, fun a h1 h2 => by omega⟩
    go_wp2_with fail
    go_loopw [13, 47] (fun lv iv wr => ∃ (j : Nat) (Ks : Nat → Prop) (A : Option Addr) (c : Nat) (ss : List Sn) (S : List Nat), j ≤ k ∧ iv = .int .i64 j ∧ lv = .slice A j c ∧ LS w wr Ks P B S [] [] 0 A j c ss ∧ StF S j 0 ∧ (∀ i s, ss[i]? = some s → SnF s i)) (fun _ iv _ => k - (intOf iv).toNat)
    case atStart => exact ⟨0, _, _, _, _, _, by omega, rfl, rfl, L0.out, F0.out, fun i s h => by simp at h⟩
    case round =>
      obtain ⟨j, Ks, A, c, ss, S, hj, rfl, rfl, hls, hst, hsn⟩ := hrel
      have HLS := Lib.hid hls
      have HST := Lib.hid hst
      have HSN := Lib.hid hsn
      clear hls hst hsn L0 F0
      by_cases hlt : j < k
      · have hlt' : (j : Int) < k := by omega
        have hb0 := j_begin HLS.out.j (by rw [HST.out.len]; omega)
        have hlen : 1 + S.length = j + 2 := by rw [HST.out.len]; omega
        rw [hlen] at hb0
        have CB := Lib.hid hb0
        clear hb0 hlen
        go_wp2_with fail
        refine CB.out.mono ?_
        rintro e wa ⟨rfl, hga⟩
        have HLA := Lib.hid (HLS.out.go hga)
        have HSA := Lib.hid (stF_new HST.out)
        obtain ⟨S1, hS1⟩ : ∃ S1, S ++ [1] = S1 := ⟨_, rfl⟩
        rw [hS1] at HLA HSA
        obtain ⟨run, hrun⟩ : ∃ run, runX 1 S1 (j + 2) = run := ⟨_, rfl⟩
        obtain ⟨r, hr⟩ : ∃ r, run.length = r := ⟨_, rfl⟩
        obtain ⟨xm, hxm⟩ : ∃ xm, xminOf 1 S1 (j + 2) = xm := ⟨_, rfl⟩
        have hxx : 1 + S1.length = j + 3 := by rw [HSA.out.len]; omega
        have ct0 := j_take2 HLA.out.j (own := j + 2) (by omega)
        unfold snOf at ct0
        rw [hrun, hr, hxm, hxx] at ct0
        have CT := Lib.hid ct0
        have HSF : Hid (∀ A c, SnF ⟨j + 2, xm, j + 3, run, A, c⟩ j) := Lib.hid (fun A c => by
          have h := snF_take HSA.out A c
          unfold snOf at h
          rwa [hrun, hxm, hxx] at h)
        have HRL := Lib.hid hr
        clear hga CB hS1 hrun hr hxm hxx ct0
        go_upto_region 16 with fail
        go_upto_region 17 with (first | (go_at_call 29; refine CT.out.mono ?_; rintro e wb ⟨A1, c1, rfl, hskb, hbb⟩; have HSKB := Lib.hid hskb; have HBB := Lib.hid hbb; have HLB := Lib.hid (HLA.out.below hbb); have hbs := HLB.out.j.bel.size; clear hskb hbb) | (at_builtin; go_loud (refine wpl_app_s rfl (.tmp 54) (.tmp 58) rfl w.heap.size _ j (svs (ss.map svOf)) rfl (OwnS.alloc HLB.out.own _) _ _ 1 (Sv.cells ⟨j + 2, xm, j + 3, A1, r, c1⟩) rfl (lies_at _ #[.int .u64 ((j + 2 : Nat) : Int), .int .u64 (xm : Int), .int .u64 ((j + 3 : Nat) : Int), .slice A1 r c1] _ 4 1 wb.heap.size rfl rfl) (sv_one ⟨j + 2, xm, j + 3, A1, r, c1⟩) (by omega) (by rw [size_alloc]; omega) ?_; intro v1 wc hown1 hg1; obtain ⟨A8, c8, hv1, _⟩ := Sl.of_own hown1; subst hv1)))
        have HLC := Lib.hid (HLA.out.app (s := ⟨j + 2, xm, j + 3, run, A1, c1⟩) HBB.out (by show SK wb _ ⟨j + 2, xm, j + 3, run, A1, c1⟩ run.length; rw [HRL.out]; exact HSKB.out) (by show OwnS _ _ _ _ (_ ++ Sv.cells ⟨j + 2, xm, j + 3, A1, run.length, c1⟩); rw [HRL.out]; exact hown1) hg1)
        clear hown1 hg1
        go_wp2_with fail
        go_roundw
        case rel => exact ⟨j + 1, _, A8, c8, _, S1, by omega, by go_num, by first | rfl | (congr 1), HLC.out, HSA.out, fun i s hi => by
          by_cases e : i < ss.length
          · rw [List.getElem?_append_left e] at hi; exact HSN.out i s hi
          · rw [List.getElem?_append_right (by omega)] at hi
            cases hq : i - ss.length with
            | zero =>
              rw [hq] at hi
              simp at hi
              subst hi
              have : i = j := by have := HLS.out.len; omega
              subst this
              exact HSF.out A1 c1
            | succ q => rw [hq] at hi; simp at hi⟩
        case measure => simp [intOf]; omega
      · obtain rfl : j = k := by omega
        clear hlt hj
        go_wp2_with fail
        go_loopw [16, 63] (fun fv iv wr => ∃ (i : Nat) (first : Bool) (S' : List Nat) (ts : List Tb) (last : Nat), i ≤ j ∧ iv = .int .i64 i ∧ fv = .bool first ∧ LS w wr Ks P B S' ts [] last A j c ss ∧ StF S' j i ∧ (CI ts S' i first ∧ last ≤ i)) (fun _ iv _ => j - (intOf iv).toNat)
        case atStart => exact ⟨0, true, S, [], 0, by omega, rfl, rfl, HLS.out, HST.out, ⟨CI.nil _, Nat.le_refl _⟩⟩
        case round =>
          obtain ⟨i, first, S', ts, last, hi, rfl, rfl, hls, hst, hinv⟩ := hrel
          have HL2 := Lib.hid hls
          have HS2 := Lib.hid hst
          have HIN := Lib.hid hinv
          clear hls hst hinv
          by_cases hlt : i < j
          · have hlt' : (i : Int) < j := by omega
            obtain ⟨s, hs⟩ : ∃ s, ss[i]? = some s := ⟨_, List.getElem?_eq_getElem (by rw [HLS.out.len]; exact hlt)⟩
            have HSF := Lib.hid (HSN.out i s hs)
            have HSK := Lib.hid (HL2.out.sk s (List.mem_of_getElem? hs))
            have HSS := Lib.hid hs
            obtain ⟨dA, rfl, y0, y1, y2, y3⟩ := HL2.out.at_ hs
            obtain ⟨r, hr⟩ : ∃ r, s.run.length = r := ⟨_, rfl⟩
            rw [hr] at y3 HSK
            have HR := Lib.hid hr
            have hcA := (own_le HL2.out.own).1
            have hcB := (own_le HL2.out.own).2
            unfold maxLen at hcB
            clear hs hr
            have HCT := Lib.hid (HIN.out.1.ct HSF.out (by omega))
            have CO := Lib.hid (one_any wr.drew)
            have HLD := Lib.hid (HL2.out.below (bel_drew wr))
            have Y0 : Hid (wr.cell? ⟨dA, i * 4, none⟩ = some (.int .u64 (s.own : Int)) ∧ wr.cell? ⟨dA, i * 4 + 1, none⟩ = some (.int .u64 (s.xmin : Int)) ∧ wr.cell? ⟨dA, i * 4 + 2, none⟩ = some (.int .u64 (s.xmax : Int)) ∧ wr.cell? ⟨dA, i * 4 + 3, none⟩ = some (.slice s.A r s.c)) := Lib.hid ⟨y0, y1, y2, y3⟩
            have HAT : Hid (∀ (W : World) (S : List Nat) (ts : List Tb) (last : Nat), LS w W Ks P B S ts [] last (some ⟨dA, 0, none⟩) j c ss → W.cell? ⟨dA, i * 4, none⟩ = some (.int .u64 (s.own : Int)) ∧ W.cell? ⟨dA, i * 4 + 1, none⟩ = some (.int .u64 (s.xmin : Int)) ∧ W.cell? ⟨dA, i * 4 + 2, none⟩ = some (.int .u64 (s.xmax : Int)) ∧ W.cell? ⟨dA, i * 4 + 3, none⟩ = some (.slice s.A r s.c)) := Lib.hid (fun W S ts last h => by
              obtain ⟨d9, e9, q⟩ := h.at_ HSS.out
              injection e9 with e9
              injection e9 with e9
              subst e9
              rw [HR.out] at q
              exact q)
            have HTL : Hid (ts.length ≤ 1000) := Lib.hid (by have := HIN.out.1.len; omega)
            cases first
            · have CY : Hid (∀ (W : World) (d0 c0 : Nat), Col W d0 c0 → Below wr.drew.heap.size wr.drew W → Calls Try.prog 34 #[.pointer (some ⟨B, 0, none⟩), .pointer (some ⟨P, 0, none⟩), .agg #[.int .u64 (s.own : Int), .int .u64 (s.xmin : Int), .int .u64 (s.xmax : Int), .slice s.A r s.c], .string ⟨#[116]⟩, .slice (some ⟨d0, 0, none⟩) 1 c0] W fun e w' => e = .returned (.tuple #[.int .u64 0, .int .i64 11]) ∧ LS w w' Ks P B S' ts [] last (some ⟨dA, 0, none⟩) j c ss) := Lib.hid (fun W d0 c0 hc hW => by
                have hL := HLD.out.below hW
                have hsk := hL.sk s (List.mem_of_getElem? HSS.out)
                rw [HR.out] at hsk
                refine (j_ct_no (name := sT) hL.j (hsk.more fun g hg => .inl hg) HTL.out (by simp) hc (by decide) HCT.out (by simp)).mono ?_
                rintro e w' ⟨rfl, hg⟩
                exact ⟨rfl, hL.go hg⟩)
              go_upto_region 25 with fail
              go_region_held3 (fun w' => w'.cell? ⟨dA, i * 4, none⟩ = some (.int .u64 (s.own : Int)) ∧ w'.cell? ⟨dA, i * 4 + 1, none⟩ = some (.int .u64 (s.xmin : Int)) ∧ w'.cell? ⟨dA, i * 4 + 2, none⟩ = some (.int .u64 (s.xmax : Int)) ∧ w'.cell? ⟨dA, i * 4 + 3, none⟩ = some (.slice s.A r s.c)) (first | with_reducible exact Y4.out | with_reducible exact Y3.out | with_reducible exact Y0.out | go_keep)
                (first
                  | (go_at_call 34; refine (CY.out _ _ _ HC3.out HB3.out).mono ?_; rintro e w4' ⟨rfl, hl4⟩; have Y4 := Lib.hid (HAT.out _ _ _ _ hl4); have HL4 := Lib.hid hl4; clear hl4)
                  | (go_at_call 35; refine CO.out.mono ?_; rintro e w3' ⟨d0, c0, rfl, hc3, _, hb3⟩; have Y3 := Lib.hid (HAT.out _ _ _ _ (HLD.out.below hb3)); have HB3 := Lib.hid hb3; have HC3 := Lib.hid hc3; clear hc3 hb3))
              clear y0 y1 y2 y3
              go_wp2_with fail
              go_roundw
              case rel => exact ⟨i + 1, false, S', ts, last, by omega, by go_num, by first | rfl | simp, HL4.out, (by have h := stF_end HS2.out hlt (b := false); exact h), HIN.out.1.told, by have := HIN.out.2; omega⟩
              case measure => simp [intOf]; omega
            · have CY : Hid (∀ (W : World) (d0 c0 : Nat), Col W d0 c0 → Below wr.drew.heap.size wr.drew W → Calls Try.prog 34 #[.pointer (some ⟨B, 0, none⟩), .pointer (some ⟨P, 0, none⟩), .agg #[.int .u64 (s.own : Int), .int .u64 (s.xmin : Int), .int .u64 (s.xmax : Int), .slice s.A r s.c], .string ⟨#[116]⟩, .slice (some ⟨d0, 0, none⟩) 1 c0] W fun e w' => ∃ (g d cc : Nat) (z : Int), e = .returned (.tuple #[.int .u64 z, .int .i64 0]) ∧ LS w w' Ks P B S' (ts ++ [⟨⟨g, last + 1, sT, i + 2, 0⟩, d, cc⟩]) [] (last + 1) (some ⟨dA, 0, none⟩) j c ss) := Lib.hid (fun W d0 c0 hc hW => by
                have hL := HLD.out.below hW
                have hsk := hL.sk s (List.mem_of_getElem? HSS.out)
                rw [HR.out] at hsk
                refine (j_ct_yes (name := sT) hL.j (hsk.more fun g hg => .inl hg) HTL.out (by simp) hc (by decide) HCT.out (by have := HIN.out.2; omega)).mono ?_
                rintro e w' ⟨g, d, cc, rfl, hg⟩
                rw [HSF.out.own] at hg
                exact ⟨g, d, cc, _, rfl, hL.go hg⟩)
              go_upto_region 25 with fail
              go_region_held3 (fun w' => w'.cell? ⟨dA, i * 4, none⟩ = some (.int .u64 (s.own : Int)) ∧ w'.cell? ⟨dA, i * 4 + 1, none⟩ = some (.int .u64 (s.xmin : Int)) ∧ w'.cell? ⟨dA, i * 4 + 2, none⟩ = some (.int .u64 (s.xmax : Int)) ∧ w'.cell? ⟨dA, i * 4 + 3, none⟩ = some (.slice s.A r s.c)) (first | with_reducible exact Y4.out | with_reducible exact Y3.out | with_reducible exact Y0.out | go_keep)
                (first
                  | (go_at_call 34; refine (CY.out _ _ _ HC3.out HB3.out).mono ?_; rintro e w4' ⟨g, d, cc, z, rfl, hl4⟩; have Y4 := Lib.hid (HAT.out _ _ _ _ hl4); have HL4 := Lib.hid hl4; clear hl4)
                  | (go_at_call 35; refine CO.out.mono ?_; rintro e w3' ⟨d0, c0, rfl, hc3, _, hb3⟩; have Y3 := Lib.hid (HAT.out _ _ _ _ (HLD.out.below hb3)); have HB3 := Lib.hid hb3; have HC3 := Lib.hid hc3; clear hc3 hb3))
              clear y0 y1 y2 y3
              have HBW := Lib.hid HL4.out.j.bel
              obtain ⟨o0, _, _, _⟩ := HAT.out _ _ _ _ HL4.out
              by_cases hin : i < n2
              · have hin' : (i : Int) < n2 := by omega
                obtain ⟨o, ho⟩ : ∃ o, l[i]? = some o := ⟨_, List.getElem?_eq_getElem (by rw [HLL.out]; exact hin)⟩
                obtain ⟨ad, rfl, z0⟩ := bq_cells HSL.out HBW.out ho HLL.out
                rw [Nat.mul_one] at z0
                obtain ⟨q⟩ := o
                have hcin : (i : Int) < c2 := by omega
                clear ho
                cases q
                · go_wp2_with fail
                  go_roundw
                  case rel => exact ⟨i + 1, false, S', ts ++ [⟨⟨g, last + 1, sT, i + 2, 0⟩, d, cc⟩], last + 1, by omega, by go_num, by first | rfl | simp, HL4.out, (by have h := stF_end HS2.out hlt (b := false); exact h), (by have h := HIN.out.1.made HS2.out hlt false (g := g) (l := last + 1) (d := d) (c := cc); exact h), by have := HIN.out.2; omega⟩
                  case measure => simp [intOf]; omega
                · have CA := Lib.hid (J.aborted HL4.out.j (x := s.own) (by rw [HSF.out.own]; omega) (by rw [HSF.out.own]; exact HS2.out.top (i + 2) (by omega) (by omega)))
                  go_wp2_with fail
                  refine CA.out.mono ?_
                  rintro e w5' ⟨⟨z5, rfl⟩, hg5⟩
                  have HL5 := HL4.out.go hg5
                  rw [HSF.out.own] at HL5
                  have HL5 := Lib.hid HL5
                  clear hg5
                  go_wp2_with fail
                  go_roundw
                  case rel => exact ⟨i + 1, true, _, ts ++ [⟨⟨g, last + 1, sT, i + 2, 0⟩, d, cc⟩], last + 1, by omega, by go_num, by first | rfl | simp, HL5.out, (by have h := stF_end HS2.out hlt (b := true); exact h), (by have h := HIN.out.1.made HS2.out hlt true (g := g) (l := last + 1) (d := d) (c := cc); exact h), by have := HIN.out.2; omega⟩
                  case measure => simp [intOf]; omega
              · have hin' : ¬ (i : Int) < n2 := by omega
                go_wp2_with fail
                go_roundw
                case rel => exact ⟨i + 1, false, S', ts ++ [⟨⟨g, last + 1, sT, i + 2, 0⟩, d, cc⟩], last + 1, by omega, by go_num, by first | rfl | simp, HL4.out, (by have h := stF_end HS2.out hlt (b := false); exact h), (by have h := HIN.out.1.made HS2.out hlt false (g := g) (l := last + 1) (d := d) (c := cc); exact h), by have := HIN.out.2; omega⟩
                case measure => simp [intOf]; omega
          · obtain rfl : i = j := by omega
            have HB := Lib.hid HL2.out.j.bel
            clear hlt hi
            go_wp2_with fail
            go_ret
            exact ⟨rfl, HB.out⟩
  · have CT : Hid (Calls Try.prog 29 #[.pointer (some ⟨P, 0, none⟩), .int .u64 1] w4 fun e w' => ∃ A c, e = .returned (.agg #[.int .u64 1, .int .u64 2, .int .u64 2, .slice A 0 c]) ∧ SK w' (New No w4 w') (snOf [1] 1 A c) 0 ∧ J w w' (New No w4 w') P B [1] [] [] 0 ∧ KeepK No w4 w' ∧ Below w4.heap.size w4 w') := Lib.hid (j_take HJ4.out (own := 1) (by omega))
    go_wp2_with fail
    refine CT.out.mono ?_
    rintro e w5 ⟨A5, c5, rfl, hs5, hj5, _, _⟩
    have HS5 := Lib.hid hs5
    have HJ5 := Lib.hid hj5
    have CO := Lib.hid (one_any w5)
    clear hs5 hj5 CT HJ4
    go_wp2_with fail
    refine CO.out.mono ?_
    rintro e w6 ⟨d6, c6, rfl, hc6, _, hb6⟩
    obtain ⟨hj6, hk6⟩ := HJ5.out.below hb6
    have hs6 := HS5.out.keep hk6 hb6.size (fun _ h => h)
    have CZ : Hid (Calls Try.prog 34 #[.pointer (some ⟨B, 0, none⟩), .pointer (some ⟨P, 0, none⟩), .agg #[.int .u64 1, .int .u64 2, .int .u64 2, .slice A5 0 c5], .string ⟨#[116]⟩, .slice (some ⟨d6, 0, none⟩) 1 c6] w6 fun e w' => ∃ g d c', e = .returned (.tuple #[.int .u64 1, .int .i64 0]) ∧ GoJ w w6 (New No w4 w5) P B [1] [⟨⟨g, 1, sT, 1, 0⟩, d, c'⟩] [] 1 w') := Lib.hid (j_ct_yes (s := snOf [1] 1 A5 c5) (name := sT) hj6 hs6 (by simp) (by simp) hc6 (by decide) rfl (by omega))
    clear hj6 hk6 hs6 hc6 hb6 HS5 HJ5 CO
    go_wp2_with fail
    refine CZ.out.mono ?_
    rintro e w7 ⟨g, d, cc, rfl, hj7, _, _⟩
    have CM : Hid (Calls Try.prog 27 #[.pointer (some ⟨P, 0, none⟩), .int .u64 1] w7 fun e w' => e = .returned (.int .i64 0) ∧ GoJ w w7 (New No w4 w5) P B [2] [⟨⟨g, 1, sT, 1, 0⟩, d, cc⟩] [] 1 w') := Lib.hid (j_commit hj7 1)
    clear hj7 CZ
    go_wp2_with fail
    refine CM.out.mono ?_
    rintro e w8 ⟨rfl, hj8, _, _⟩
    have L0 := Lib.hid (ls_new hj8)
    clear hj8 CM
    have F0 : Hid (StF [2] 0 0) := Lib.hid ⟨rfl, rfl, fun a h1 h2 => by omega, fun a h1 h2 => by omega⟩
    go_wp2_with fail
    go_loopw [13, 47] (fun lv iv wr => ∃ (j : Nat) (Ks : Nat → Prop) (A : Option Addr) (c : Nat) (ss : List Sn) (S : List Nat), j ≤ k ∧ iv = .int .i64 j ∧ lv = .slice A j c ∧ LS w wr Ks P B S [⟨⟨g, 1, sT, 1, 0⟩, d, cc⟩] [] 1 A j c ss ∧ StF S j 0 ∧ (∀ i s, ss[i]? = some s → SnF s i)) (fun _ iv _ => k - (intOf iv).toNat)
    case atStart => exact ⟨0, _, _, _, _, _, by omega, rfl, rfl, L0.out, F0.out, fun i s h => by simp at h⟩
    case round =>
      obtain ⟨j, Ks, A, c, ss, S, hj, rfl, rfl, hls, hst, hsn⟩ := hrel
      have HLS := Lib.hid hls
      have HST := Lib.hid hst
      have HSN := Lib.hid hsn
      clear hls hst hsn L0 F0
      by_cases hlt : j < k
      · have hlt' : (j : Int) < k := by omega
        have hb0 := j_begin HLS.out.j (by rw [HST.out.len]; omega)
        have hlen : 1 + S.length = j + 2 := by rw [HST.out.len]; omega
        rw [hlen] at hb0
        have CB := Lib.hid hb0
        clear hb0 hlen
        go_wp2_with fail
        refine CB.out.mono ?_
        rintro e wa ⟨rfl, hga⟩
        have HLA := Lib.hid (HLS.out.go hga)
        have HSA := Lib.hid (stF_new HST.out)
        obtain ⟨S1, hS1⟩ : ∃ S1, S ++ [1] = S1 := ⟨_, rfl⟩
        rw [hS1] at HLA HSA
        obtain ⟨run, hrun⟩ : ∃ run, runX 1 S1 (j + 2) = run := ⟨_, rfl⟩
        obtain ⟨r, hr⟩ : ∃ r, run.length = r := ⟨_, rfl⟩
        obtain ⟨xm, hxm⟩ : ∃ xm, xminOf 1 S1 (j + 2) = xm := ⟨_, rfl⟩
        have hxx : 1 + S1.length = j + 3 := by rw [HSA.out.len]; omega
        have ct0 := j_take2 HLA.out.j (own := j + 2) (by omega)
        unfold snOf at ct0
        rw [hrun, hr, hxm, hxx] at ct0
        have CT := Lib.hid ct0
        have HSF : Hid (∀ A c, SnF ⟨j + 2, xm, j + 3, run, A, c⟩ j) := Lib.hid (fun A c => by
          have h := snF_take HSA.out A c
          unfold snOf at h
          rwa [hrun, hxm, hxx] at h)
        have HRL := Lib.hid hr
        clear hga CB hS1 hrun hr hxm hxx ct0
        go_upto_region 16 with fail
        go_upto_region 17 with (first | (go_at_call 29; refine CT.out.mono ?_; rintro e wb ⟨A1, c1, rfl, hskb, hbb⟩; have HSKB := Lib.hid hskb; have HBB := Lib.hid hbb; have HLB := Lib.hid (HLA.out.below hbb); have hbs := HLB.out.j.bel.size; clear hskb hbb) | (at_builtin; go_loud (refine wpl_app_s rfl (.tmp 54) (.tmp 58) rfl w.heap.size _ j (svs (ss.map svOf)) rfl (OwnS.alloc HLB.out.own _) _ _ 1 (Sv.cells ⟨j + 2, xm, j + 3, A1, r, c1⟩) rfl (lies_at _ #[.int .u64 ((j + 2 : Nat) : Int), .int .u64 (xm : Int), .int .u64 ((j + 3 : Nat) : Int), .slice A1 r c1] _ 4 1 wb.heap.size rfl rfl) (sv_one ⟨j + 2, xm, j + 3, A1, r, c1⟩) (by omega) (by rw [size_alloc]; omega) ?_; intro v1 wc hown1 hg1; obtain ⟨A8, c8, hv1, _⟩ := Sl.of_own hown1; subst hv1)))
        have HLC := Lib.hid (HLA.out.app (s := ⟨j + 2, xm, j + 3, run, A1, c1⟩) HBB.out (by show SK wb _ ⟨j + 2, xm, j + 3, run, A1, c1⟩ run.length; rw [HRL.out]; exact HSKB.out) (by show OwnS _ _ _ _ (_ ++ Sv.cells ⟨j + 2, xm, j + 3, A1, run.length, c1⟩); rw [HRL.out]; exact hown1) hg1)
        clear hown1 hg1
        go_wp2_with fail
        go_roundw
        case rel => exact ⟨j + 1, _, A8, c8, _, S1, by omega, by go_num, by first | rfl | (congr 1), HLC.out, HSA.out, fun i s hi => by
          by_cases e : i < ss.length
          · rw [List.getElem?_append_left e] at hi; exact HSN.out i s hi
          · rw [List.getElem?_append_right (by omega)] at hi
            cases hq : i - ss.length with
            | zero =>
              rw [hq] at hi
              simp at hi
              subst hi
              have : i = j := by have := HLS.out.len; omega
              subst this
              exact HSF.out A1 c1
            | succ q => rw [hq] at hi; simp at hi⟩
        case measure => simp [intOf]; omega
      · obtain rfl : j = k := by omega
        clear hlt hj
        go_wp2_with fail
        go_loopw [16, 63] (fun fv iv wr => ∃ (i : Nat) (first : Bool) (S' : List Nat) (b : Nat), i ≤ j ∧ iv = .int .i64 i ∧ fv = .bool first ∧ LS w wr Ks P B S' [⟨⟨g, 1, sT, 1, b⟩, d, cc⟩] [] 1 A j c ss ∧ StF S' j i ∧ DI b S' i first) (fun _ iv _ => j - (intOf iv).toNat)
        case atStart => exact ⟨0, true, S, 0, by omega, rfl, rfl, HLS.out, HST.out, ⟨fun _ => .inl rfl, (fun e => by cases e)⟩⟩
        case round =>
          obtain ⟨i, first, S', b, hi, rfl, rfl, hls, hst, hinv⟩ := hrel
          have HL2 := Lib.hid hls
          have HS2 := Lib.hid hst
          have HIN := Lib.hid hinv
          clear hls hst hinv
          by_cases hlt : i < j
          · have hlt' : (i : Int) < j := by omega
            obtain ⟨s, hs⟩ : ∃ s, ss[i]? = some s := ⟨_, List.getElem?_eq_getElem (by rw [HLS.out.len]; exact hlt)⟩
            have HSF := Lib.hid (HSN.out i s hs)
            have HSK := Lib.hid (HL2.out.sk s (List.mem_of_getElem? hs))
            have HSS := Lib.hid hs
            obtain ⟨dA, rfl, y0, y1, y2, y3⟩ := HL2.out.at_ hs
            obtain ⟨r, hr⟩ : ∃ r, s.run.length = r := ⟨_, rfl⟩
            rw [hr] at y3 HSK
            have HR := Lib.hid hr
            have hcA := (own_le HL2.out.own).1
            have hcB := (own_le HL2.out.own).2
            unfold maxLen at hcB
            clear hs hr
            have HFR := Lib.hid (HIN.out.free (g := g) HS2.out HSF.out)
            have HFN := Lib.hid (HIN.out.fnd (g := g) (d := d) (c := cc) HS2.out HSF.out)
            have HAT : Hid (∀ (W : World) (S : List Nat) (ts : List Tb) (last : Nat), LS w W Ks P B S ts [] last (some ⟨dA, 0, none⟩) j c ss → W.cell? ⟨dA, i * 4, none⟩ = some (.int .u64 (s.own : Int)) ∧ W.cell? ⟨dA, i * 4 + 1, none⟩ = some (.int .u64 (s.xmin : Int)) ∧ W.cell? ⟨dA, i * 4 + 2, none⟩ = some (.int .u64 (s.xmax : Int)) ∧ W.cell? ⟨dA, i * 4 + 3, none⟩ = some (.slice s.A r s.c)) := Lib.hid (fun W S ts last h => by
              obtain ⟨d9, e9, q⟩ := h.at_ HSS.out
              injection e9 with e9
              injection e9 with e9
              subst e9
              rw [HR.out] at q
              exact q)
            have CD : Hid (Calls Try.prog 38 #[.pointer (some ⟨B, 0, none⟩), .pointer (some ⟨P, 0, none⟩), .agg #[.int .u64 (s.own : Int), .int .u64 (s.xmin : Int), .int .u64 (s.xmax : Int), .slice s.A r s.c], .string ⟨#[116]⟩] wr fun e w' => (first = false ∧ e = .returned (.tuple #[.int .u64 0, .int .i64 11]) ∧ LS w w' Ks P B S' [⟨⟨g, 1, sT, 1, b⟩, d, cc⟩] [] 1 (some ⟨dA, 0, none⟩) j c ss) ∨ (first = true ∧ e = .returned (.tuple #[.int .u64 1, .int .i64 0]) ∧ LS w w' Ks P B S' [⟨⟨g, 1, sT, 1, i + 2⟩, d, cc⟩] [] 1 (some ⟨dA, 0, none⟩) j c ss)) := Lib.hid (by
              refine (j_dt_some (name := sT) HL2.out.j (HSK.out.more fun g hg => .inl hg) (by simp) (by simp) (fun x hx => by cases hx) HFN.out).mono ?_
              rintro e w' (⟨⟨x, hx, hxf⟩, rfl, hg⟩ | ⟨hall, rfl, hg⟩)
              · have hx' : x = ⟨g, 1, sT, 1, b⟩ := by simpa [goL, ofX] using hx
                subst hx'
                rw [HFR.out] at hxf
                exact .inl ⟨hxf, rfl, HL2.out.go hg⟩
              · have hf := hall ⟨g, 1, sT, 1, b⟩ (by simp [goL])
                rw [HFR.out] at hf
                have hgo : gsE (goL 1 S' s ⟨⟨g, 1, sT, 1, b⟩, d, cc⟩ []) = [g] := rfl
                rw [hgo, dropped_one, HSF.out.own] at hg
                exact .inr ⟨hf, rfl, HL2.out.go hg⟩)
            go_wp2_with fail
            refine CD.out.mono ?_
            rintro e w4' (⟨rfl, rfl, hl4⟩ | ⟨rfl, rfl, hl4⟩)
            · have HL4 := Lib.hid hl4
              clear hl4 y0 y1 y2 y3
              go_wp2_with fail
              go_roundw
              case rel => exact ⟨i + 1, false, S', b, by omega, by go_num, by first | rfl | simp, HL4.out, (by have h := stF_end HS2.out hlt (b := false); exact h), HIN.out.told⟩
              case measure => simp [intOf]; omega
            · have HL4 := Lib.hid hl4
              clear hl4 y0 y1 y2 y3
              have HBW := Lib.hid HL4.out.j.bel
              obtain ⟨o0, _, _, _⟩ := HAT.out _ _ _ _ HL4.out
              by_cases hin : i < n2
              · have hin' : (i : Int) < n2 := by omega
                obtain ⟨o, ho⟩ : ∃ o, l[i]? = some o := ⟨_, List.getElem?_eq_getElem (by rw [HLL.out]; exact hin)⟩
                obtain ⟨ad, rfl, z0⟩ := bq_cells HSL.out HBW.out ho HLL.out
                rw [Nat.mul_one] at z0
                obtain ⟨q⟩ := o
                have hcin : (i : Int) < c2 := by omega
                clear ho
                cases q
                · go_wp2_with fail
                  go_roundw
                  case rel => exact ⟨i + 1, false, S', i + 2, by omega, by go_num, by first | rfl | simp, HL4.out, (by have h := stF_end HS2.out hlt (b := false); exact h), (by have h := DI.made HS2.out hlt false; exact h)⟩
                  case measure => simp [intOf]; omega
                · have CA := Lib.hid (J.aborted HL4.out.j (x := s.own) (by rw [HSF.out.own]; omega) (by rw [HSF.out.own]; exact HS2.out.top (i + 2) (by omega) (by omega)))
                  go_wp2_with fail
                  refine CA.out.mono ?_
                  rintro e w5' ⟨⟨z5, rfl⟩, hg5⟩
                  have HL5 := HL4.out.go hg5
                  rw [HSF.out.own] at HL5
                  have HL5 := Lib.hid HL5
                  clear hg5
                  go_wp2_with fail
                  go_roundw
                  case rel => exact ⟨i + 1, true, _, i + 2, by omega, by go_num, by first | rfl | simp, HL5.out, (by have h := stF_end HS2.out hlt (b := true); exact h), (by have h := DI.made HS2.out hlt true; exact h)⟩
                  case measure => simp [intOf]; omega
              · have hin' : ¬ (i : Int) < n2 := by omega
                go_wp2_with fail
                go_roundw
                case rel => exact ⟨i + 1, false, S', i + 2, by omega, by go_num, by first | rfl | simp, HL4.out, (by have h := stF_end HS2.out hlt (b := false); exact h), (by have h := DI.made HS2.out hlt false; exact h)⟩
                case measure => simp [intOf]; omega
          · obtain rfl : i = j := by omega
            have HB := Lib.hid HL2.out.j.bel
            clear hlt hi
            go_wp2_with fail
            go_ret
            exact ⟨rfl, HB.out⟩
end Go.Proofs.Ytnpmjljpaaaljaa.Bok
