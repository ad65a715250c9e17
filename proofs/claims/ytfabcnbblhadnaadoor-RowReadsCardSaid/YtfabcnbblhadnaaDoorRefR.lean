/- ref03.Read. -/
import Derived.Test.YtfabcnbblhadnaaDoorRefB
namespace Go.Proofs.YtfabcnbblhadnaaDoor.Mem
open Go.RowKit Go.Proofs.YtfabcnbblhadnaaDoor.Nums
open Go.Proofs.YtfabcnbblhadnaaDoor.Cell (U8 right_exact)
set_option linter.unusedVariables false
set_option linter.unusedSimpArgs false
set_option maxRecDepth 100000
set_option maxHeartbeats 4000000
theorem truth3_any (b : Bool) (w : World) :
    Calls Tryd.prog 41 #[.bool b] w fun e w' => e = .returned (.agg #[.int .u8 3, .int .i64 0, .string ⟨#[]⟩, .bool b]) ∧ Below w.heap.size w w' := by
  go_enter Tryd.func41, Tryd.ntmps41
  go_wp2_with fail
  exact bodyPost_ret (v := .agg #[.int .u8 3, .int .i64 0, .string ⟨#[]⟩, .bool b]) (by simp [results, Tryd.results41, go_sem]) rfl ⟨rfl, by repeat (first | exact Below.refl _ _ | exact Cell.bel_alloc _ _)⟩
theorem kin4 {w w' : World} {v v' : Value} {b : Nat} {a0 a1 a2 a3 : Value} (h : Kin w w' v v') (hc : w.cell? ⟨b, 0, none⟩ = some a0 ∧ w.cell? ⟨b, 1, none⟩ = some a1 ∧ w.cell? ⟨b, 2, none⟩ = some a2 ∧ w.cell? ⟨b, 3, none⟩ = some a3) (hne : v.ownBlock ≠ some b) :
    w'.cell? ⟨b, 0, none⟩ = some a0 ∧ w'.cell? ⟨b, 1, none⟩ = some a1 ∧ w'.cell? ⟨b, 2, none⟩ = some a2 ∧ w'.cell? ⟨b, 3, none⟩ = some a3 := ⟨h.cell hc.1 hne, h.cell hc.2.1 hne, h.cell hc.2.2.1 hne, h.cell hc.2.2.2 hne⟩
theorem add_off (b o k : Nat) : (⟨b, o, none⟩ : Addr).add k = ⟨b, o + k, none⟩ := by unfold Addr.add; split <;> simp_all
theorem slot_set {w : World} {b : Nat} (h : Slot w b) (v : V) : ValAt ((((w.setCell ⟨b, 0, none⟩ (.int .u8 v.k)).setCell ⟨b, 1, none⟩ (.int .i64 v.i)).setCell ⟨b, 2, none⟩ (.string v.s)).setCell ⟨b, 3, none⟩ (.bool v.b)) ⟨b, 0, none⟩ v :=
  ⟨by rw [World.cell?_setCell_other _ _ _ _ (by simp), World.cell?_setCell_other _ _ _ _ (by simp), World.cell?_setCell_other _ _ _ _ (by simp)]; exact h.s0 _,
   by show World.cell? _ ⟨b, 1, none⟩ = _; rw [World.cell?_setCell_other _ _ _ _ (by simp), World.cell?_setCell_other _ _ _ _ (by simp)]; exact h.s1 _ _,
   by show World.cell? _ ⟨b, 2, none⟩ = _; rw [World.cell?_setCell_other _ _ _ _ (by simp)]; exact h.s2 _ _ _,
   by show World.cell? _ ⟨b, 3, none⟩ = _; exact h.s3 _ _ _ _⟩
theorem slot_val {w : World} {b : Nat} (h : Slot w b) : ValAt w ⟨b, 0, none⟩ ⟨0, 0, ⟨#[]⟩, false⟩ := ⟨h.c0, h.c1, h.c2, h.c3⟩
theorem unsub (U : Nat) (hU : U < 18446744073709551616) : wrap64 (IntKind.u64.wrap ((U : Int) - 9223372036854775808)) = (U : Int) - 9223372036854775808 := by
  rw [IntKind.wrap_u64]
  unfold wrap64
  omega
theorem zAt_step {x : List UInt8} {k : Nat} {c : UInt8} (h : x[k]? = some c) (hk : k < zAt x) : c ≠ 0 := by
  unfold zAt at hk
  have h1 : (x.takeWhile (· != 0))[k]? = some (x.takeWhile (· != 0))[k] := List.getElem?_eq_getElem hk
  have h2 := List.mem_of_getElem? h1
  have hp := List.all_eq_true.1 (List.all_takeWhile (p := (· != 0)) (l := x)) _ h2
  have h3 : (x.takeWhile (· != 0))[k]? = x[k]? := by
    obtain ⟨t, ht⟩ := List.takeWhile_prefix (p := fun c : UInt8 => c != 0) (l := x)
    conv => rhs; rw [← ht]
    rw [List.getElem?_append_left hk]
  rw [h1, h] at h3
  injection h3 with h3
  rw [h3] at hp
  simpa using hp
theorem zAt_stop : ∀ {x : List UInt8}, zAt x < x.length → x[zAt x]? = some 0
  | [], h => by cases h
  | a :: x, h => by
    by_cases ha : a = 0
    · subst ha; rfl
    · have e2 : (a != 0) = true := by rw [bne_iff_ne]; exact ha
      have e3 : zAt (a :: x) = zAt x + 1 := by unfold zAt; rw [List.takeWhile_cons, e2, if_pos rfl, List.length_cons]
      rw [e3, List.length_cons] at h
      rw [e3, List.getElem?_cons_succ]
      exact zAt_stop (by omega)
theorem refread_any (x : List UInt8) (A : Option Addr) (n c : Nat) (w : World) (hn : n ≤ 1000000) (hx : Sl w w.heap.size 1 A n c (u8s x)) :
    Calls Tryd.prog 23 #[.slice A n c] w (RPost (readL x) w) := by
  have HL := Lib.hid (len_of hx)
  have HX := Lib.hid hx
  clear hx
  go_enter Tryd.func23, Tryd.ntmps23
  go_wp2_with fail
  go_loopw [0, 4] (fun p l wr => ∃ (y : List UInt8) (ds : List V) (A' : Option Addr) (n' c' : Nat), p = .slice A' n' c' ∧ y.length = n' ∧ n' + ds.length ≤ n ∧ Sl wr w.heap.size 1 A' n' c' (u8s y) ∧ OwnV wr w.heap.size l ds.length (vals ds) ∧ readL x = (readL y).map (ds ++ ·) ∧ Below w.heap.size w wr) (fun p _ _ => sLen p)
  case atStart => exact ⟨x, [], A, n, c, rfl, HL.out, by simp, HX.out, World.ownsRow_nil _ _ _ _, by simp, Below.refl _ _⟩
  case round =>
    obtain ⟨y, ds, A', n', c', rfl, hyl, hnd, hsl, hown, hread, hbr⟩ := hrel
    have HS := Lib.hid hsl
    have HO := Lib.hid hown
    have HR := Lib.hid hread
    have HB := Lib.hid hbr
    have hsz := hbr.size
    have hcap := hsl.cap
    have hle := hsl.le
    unfold maxLen at hcap
    clear hsl hown hread hbr
    cases y with
    | nil =>
      obtain rfl : n' = 0 := by rw [← hyl]; rfl
      rw [readL_nil] at HR
      simp only [Option.map_some, List.append_nil] at HR
      clear hyl
      go_wp2_with fail
      go_ret2
      refine ⟨HB.out, ?_⟩
      rw [HR.out]
      exact ⟨_, rfl, HO.out⟩
    | cons b r =>
      obtain ⟨m, rfl⟩ : ∃ m, n' = m + 1 := ⟨n' - 1, by have : (b :: r).length = r.length + 1 := rfl; omega⟩
      have hrl : r.length = m := by have : (b :: r).length = r.length + 1 := rfl; omega
      have HRL := Lib.hid hrl
      clear hrl hyl
      obtain ⟨ad, hA, hAt⟩ := HS.out.at_ (by omega)
      subst hA
      have HSL1 : Hid (Slot (wr.alloc (.cells #[.int .u8 0, .int .i64 0, .string ⟨#[]⟩, .bool false] 43)) wr.heap.size) := Lib.hid (slot_new wr)
      have HB1 : Hid (Below wr.heap.size wr (wr.alloc (.cells #[.int .u8 0, .int .i64 0, .string ⟨#[]⟩, .bool false] 43))) := Lib.hid (Cell.bel_alloc _ _)
      have HA1 : Hid (At (wr.alloc (.cells #[.int .u8 0, .int .i64 0, .string ⟨#[]⟩, .bool false] 43)) w.heap.size ad (u8s (b :: r))) := Lib.hid (hAt.below (HB1.out.mono hsz))
      have HA2 : Hid (At (wr.alloc (.cells #[.int .u8 0, .int .i64 0, .string ⟨#[]⟩, .bool false] 43)) w.heap.size ⟨ad.block, ad.off + 1, none⟩ (u8s r)) := Lib.hid (by have h := HA1.out.drop 1; rw [add_succ ad 0] at h; exact h)
      have HNE : Hid (u4.ownBlock ≠ some wr.heap.size) := Lib.hid (by intro e; have := (World.ownsRow.lt HO.out _ e).2; omega)
      have x0 : (wr.alloc (.cells #[.int .u8 0, .int .i64 0, .string ⟨#[]⟩, .bool false] 43)).cell? ad = some (.int .u8 (b.toNat : Int)) := by
        have h := u8s_at HA1.out (j := 0) (b := b) rfl
        rwa [show ad.add 0 = ad by simp [Addr.add]] at h
      clear hAt
      by_cases h1 : (b.toNat : Int) = 1
      · rw [show ((b.toNat : Int)) = 1 from h1] at x0
        have HFF : Hid (fFirst (b :: r) = some (⟨0, 0, ⟨#[]⟩, false⟩, r)) := Lib.hid (by
          show fMark b.toNat r = _
          rw [show b.toNat = 1 by omega]
          rfl)
        have HTL : Hid (Sl wr w.heap.size 1 (tlA (some ad) c' (1)) m (c' - (1)) (u8s (r))) := Lib.hid (Sl.tl (m := m) (k := 1) HS.out)
        have HN := Lib.hid (readL_some HFF.out)
        have HLR : Hid ((r).length = m) := Lib.hid (HRL.out)
        obtain ⟨y0, y1, y2, y3⟩ := slot_val HSL1.out
        dsimp only at y0 y1 y2 y3
        have HBT : Hid (Below wr.heap.size wr ((wr.alloc (.cells #[.int .u8 0, .int .i64 0, .string ⟨#[]⟩, .bool false] 43)))) := Lib.hid (HB1.out)
        have HOT := Lib.hid (ownV_kept HO.out HBT.out)
        have hszT := HBT.out.size
        by_cases hcK : c' = 1
        · subst hcK
          obtain rfl : m = 0 := by omega
          have et : tlA (some ad) (1) (1) = some ad := by unfold tlA; rw [if_pos rfl]
          rw [et, Nat.sub_self] at HTL
          clear et
          go_wp2_with fail
          generalize hWt : (wr.alloc (.cells #[.int .u8 0, .int .i64 0, .string ⟨#[]⟩, .bool false] 43)) = Wt at *
          go_region_held3 (fun w' => w'.cell? ⟨wr.heap.size, 0, none⟩ = some (.int .u8 0) ∧ w'.cell? ⟨wr.heap.size, 1, none⟩ = some (.int .i64 0) ∧ w'.cell? ⟨wr.heap.size, 2, none⟩ = some (.string ⟨#[]⟩) ∧ w'.cell? ⟨wr.heap.size, 3, none⟩ = some (.bool false)) (first | go_keep | exact kin4 hgrow5 (by assumption) HNE.out)
            (first | (refine step_app_v (by rfl) _ _ (by rfl) w.heap.size u4 _ _ (by rfl) (HOT.out.alloc _) _ _ 1 _ (by rfl) (lies_lit _ _ _ 4 1 (by rfl)) (one4 _ _ _ _) (by omega) (by rw [sz_ad]; omega) ?_; intro v5 w5 hown5 hgrow5))
          all_goals (
            have hb5 := own_below hgrow5 (by rw [sz_ad]; omega) (HOT.out.alloc _)
            have HB5 := Lib.hid (((HBT.out.mono hsz).trans ((Cell.bel_alloc _ _).mono (by omega)).drew).trans hb5)
            have HO5 := Lib.hid hown5
            clear hown5 hgrow5 hb5
            go_wp2_with fail
            go_roundw
            case rel =>
              refine ⟨r, ds ++ [⟨0, 0, ⟨#[]⟩, false⟩], _, _, _, rfl, HLR.out, ?_, HTL.out.below HB5.out, own_eqV HO5.out ?_ ?_, ?_, HB.out.trans HB5.out⟩
              · rw [List.length_append, List.length_singleton]; omega
              · rw [List.length_append, List.length_singleton]
              · rw [vals_app]; rfl
              · rw [HR.out, HN.out, Option.map_map]
                congr 1
                funext l
                simp
            case measure => simp [sLen] <;> omega)
        · have et : tlA (some ad) c' (1) = some ⟨ad.block, ad.off + (1), none⟩ := by unfold tlA; rw [if_neg hcK]; try (show some (ad.add (1)) = _; rw [add_succ])
          rw [et] at HTL
          clear et
          have hi1 : ((1 : Nat) : Int) ≤ (((m + 1 : Nat)) : Int) := by omega
          have hi2 : (((m + 1 : Nat)) : Int) ≤ c' := by omega
          have hi3 : ((1 : Nat) : Int) ≤ c' := by omega
          push_cast at hi1 hi2 hi3
          go_wp2_with fail
          generalize hWt : (wr.alloc (.cells #[.int .u8 0, .int .i64 0, .string ⟨#[]⟩, .bool false] 43)) = Wt at *
          go_region_held3 (fun w' => w'.cell? ⟨wr.heap.size, 0, none⟩ = some (.int .u8 0) ∧ w'.cell? ⟨wr.heap.size, 1, none⟩ = some (.int .i64 0) ∧ w'.cell? ⟨wr.heap.size, 2, none⟩ = some (.string ⟨#[]⟩) ∧ w'.cell? ⟨wr.heap.size, 3, none⟩ = some (.bool false)) (first | go_keep | exact kin4 hgrow5 (by assumption) HNE.out)
            (first | (refine step_app_v (by rfl) _ _ (by rfl) w.heap.size u4 _ _ (by rfl) (HOT.out.alloc _) _ _ 1 _ (by rfl) (lies_lit _ _ _ 4 1 (by rfl)) (one4 _ _ _ _) (by omega) (by rw [sz_ad]; omega) ?_; intro v5 w5 hown5 hgrow5))
          all_goals (
            have hb5 := own_below hgrow5 (by rw [sz_ad]; omega) (HOT.out.alloc _)
            have HB5 := Lib.hid (((HBT.out.mono hsz).trans ((Cell.bel_alloc _ _).mono (by omega)).drew).trans hb5)
            have HO5 := Lib.hid hown5
            clear hown5 hgrow5 hb5
            go_wp2_with fail
            go_roundw
            case rel =>
              refine ⟨r, ds ++ [⟨0, 0, ⟨#[]⟩, false⟩], _, _, _, rfl, HLR.out, ?_, HTL.out.below HB5.out, own_eqV HO5.out ?_ ?_, ?_, HB.out.trans HB5.out⟩
              · rw [List.length_append, List.length_singleton]; omega
              · rw [List.length_append, List.length_singleton]
              · rw [vals_app]; rfl
              · rw [HR.out, HN.out, Option.map_map]
                congr 1
                funext l
                simp
            case measure => simp [sLen] <;> omega)
      by_cases h2 : (b.toNat : Int) = 2
      · rw [show ((b.toNat : Int)) = 2 from h2] at x0
        cases r with
        | nil =>
          obtain rfl : m = 0 := by rw [← HRL.out]; rfl
          have HN : Hid (readL x = none) := Lib.hid (by rw [HR.out, readL_none (by show fMark b.toNat _ = _; rw [show b.toNat = 2 by omega]; rfl)]; rfl)
          go_wp2_with fail
          go_ret2
          refine ⟨(HB.out.trans (HB1.out.mono hsz)), ?_⟩
          rw [HN.out]
          exact rfl
        | cons a r' =>
          obtain ⟨m', rfl⟩ : ∃ m', m = m' + 1 := ⟨m - 1, by have h := HRL.out; rw [List.length_cons] at h; omega⟩
          have hrl' : r'.length = m' := by have h := HRL.out; rw [List.length_cons] at h; omega
          have HRL' := Lib.hid hrl'
          clear hrl'
          have x1 : (wr.alloc (.cells #[.int .u8 0, .int .i64 0, .string ⟨#[]⟩, .bool false] 43)).cell? ⟨ad.block, ad.off + 1, none⟩ = some (.int .u8 (a.toNat : Int)) := by
            have h := u8s_at HA2.out (j := 0) (b := a) rfl
            rwa [show (⟨ad.block, ad.off + 1, none⟩ : Addr).add 0 = ⟨ad.block, ad.off + 1, none⟩ by simp [Addr.add]] at h
          have hc2 : ¬ c' = 1 := by omega
          by_cases ha : a.toNat ≤ 1
          · have ha' : ¬ (1 : Int) < a.toNat := by omega
            have hq : ((a.toNat : Int) == 1) = (a == 1) := by
              rw [Bool.eq_iff_iff]
              simp only [beq_iff_eq]
              constructor
              · intro h; exact UInt8.toNat_inj.1 (by show a.toNat = 1; omega)
              · rintro rfl; rfl
            obtain ⟨q, hqq⟩ : ∃ q, (a == 1) = q := ⟨_, rfl⟩
            rw [hqq] at hq
            have HFF : Hid (fFirst (b :: a :: r') = some (⟨3, 0, ⟨#[]⟩, q⟩, r')) := Lib.hid (by
              show fMark b.toNat _ = _
              rw [show b.toNat = 2 by omega, ← hqq]
              exact if_pos ha)
            clear hqq
            go_wp2_with fail
            refine (truth3_any q _).mono ?_
            rintro e w3 ⟨rfl, hb3⟩
            have HSL3 := Lib.hid (HSL1.out.below hb3)
            have HB3 := Lib.hid (Cell.bel_trans HB1.out hb3)
            clear hb3
            obtain ⟨z0, z1, z2, z3, f0, f1, f2, f3, hlt⟩ := HSL3.out
            have HTL : Hid (Sl wr w.heap.size 1 (tlA (some ad) c' (2)) m' (c' - (2)) (u8s (r'))) := Lib.hid (Sl.tl (m := m') (k := 2) HS.out)
            have HN := Lib.hid (readL_some HFF.out)
            have HLR : Hid ((r').length = m') := Lib.hid (HRL'.out)
            obtain ⟨y0, y1, y2, y3⟩ := slot_set HSL3.out ⟨3, 0, ⟨#[]⟩, q⟩
            dsimp only at y0 y1 y2 y3
            have HBT : Hid (Below wr.heap.size wr (((((w3.setCell ⟨wr.heap.size, 0, none⟩ (.int .u8 3)).setCell ⟨wr.heap.size, 1, none⟩ (.int .i64 0)).setCell ⟨wr.heap.size, 2, none⟩ (.string ⟨#[]⟩)).setCell ⟨wr.heap.size, 3, none⟩ (.bool q)))) := Lib.hid (bel_slot HB3.out (Nat.le_refl _) _ _ _ _)
            have HOT := Lib.hid (ownV_kept HO.out HBT.out)
            have hszT := HBT.out.size
            by_cases hcK : c' = 2
            · subst hcK
              obtain rfl : m' = 0 := by omega
              have et : tlA (some ad) (2) (2) = some ad := by unfold tlA; rw [if_pos rfl]
              rw [et, Nat.sub_self] at HTL
              clear et
              go_wp2_with fail
              generalize hWt : ((((w3.setCell ⟨wr.heap.size, 0, none⟩ (.int .u8 3)).setCell ⟨wr.heap.size, 1, none⟩ (.int .i64 0)).setCell ⟨wr.heap.size, 2, none⟩ (.string ⟨#[]⟩)).setCell ⟨wr.heap.size, 3, none⟩ (.bool q)) = Wt at *
              go_region_held3 (fun w' => w'.cell? ⟨wr.heap.size, 0, none⟩ = some (.int .u8 3) ∧ w'.cell? ⟨wr.heap.size, 1, none⟩ = some (.int .i64 0) ∧ w'.cell? ⟨wr.heap.size, 2, none⟩ = some (.string ⟨#[]⟩) ∧ w'.cell? ⟨wr.heap.size, 3, none⟩ = some (.bool q)) (first | go_keep | exact kin4 hgrow5 (by assumption) HNE.out)
                (first | (refine step_app_v (by rfl) _ _ (by rfl) w.heap.size u4 _ _ (by rfl) (HOT.out.alloc _) _ _ 1 _ (by rfl) (lies_lit _ _ _ 4 1 (by rfl)) (one4 _ _ _ _) (by omega) (by rw [sz_ad]; omega) ?_; intro v5 w5 hown5 hgrow5))
              all_goals (
                have hb5 := own_below hgrow5 (by rw [sz_ad]; omega) (HOT.out.alloc _)
                have HB5 := Lib.hid (((HBT.out.mono hsz).trans ((Cell.bel_alloc _ _).mono (by omega)).drew).trans hb5)
                have HO5 := Lib.hid hown5
                clear hown5 hgrow5 hb5
                go_wp2_with fail
                go_roundw
                case rel =>
                  refine ⟨r', ds ++ [⟨3, 0, ⟨#[]⟩, q⟩], _, _, _, rfl, HLR.out, ?_, HTL.out.below HB5.out, own_eqV HO5.out ?_ ?_, ?_, HB.out.trans HB5.out⟩
                  · rw [List.length_append, List.length_singleton]; omega
                  · rw [List.length_append, List.length_singleton]
                  · rw [vals_app]; rfl
                  · rw [HR.out, HN.out, Option.map_map]
                    congr 1
                    funext l
                    simp
                case measure => simp [sLen] <;> omega)
            · have et : tlA (some ad) c' (2) = some ⟨ad.block, ad.off + (2), none⟩ := by unfold tlA; rw [if_neg hcK]; try (show some (ad.add (2)) = _; rw [add_succ])
              rw [et] at HTL
              clear et
              have hi1 : ((2 : Nat) : Int) ≤ (((m' + 2 : Nat)) : Int) := by omega
              have hi2 : (((m' + 2 : Nat)) : Int) ≤ c' := by omega
              have hi3 : ((2 : Nat) : Int) ≤ c' := by omega
              push_cast at hi1 hi2 hi3
              go_wp2_with fail
              generalize hWt : ((((w3.setCell ⟨wr.heap.size, 0, none⟩ (.int .u8 3)).setCell ⟨wr.heap.size, 1, none⟩ (.int .i64 0)).setCell ⟨wr.heap.size, 2, none⟩ (.string ⟨#[]⟩)).setCell ⟨wr.heap.size, 3, none⟩ (.bool q)) = Wt at *
              go_region_held3 (fun w' => w'.cell? ⟨wr.heap.size, 0, none⟩ = some (.int .u8 3) ∧ w'.cell? ⟨wr.heap.size, 1, none⟩ = some (.int .i64 0) ∧ w'.cell? ⟨wr.heap.size, 2, none⟩ = some (.string ⟨#[]⟩) ∧ w'.cell? ⟨wr.heap.size, 3, none⟩ = some (.bool q)) (first | go_keep | exact kin4 hgrow5 (by assumption) HNE.out)
                (first | (refine step_app_v (by rfl) _ _ (by rfl) w.heap.size u4 _ _ (by rfl) (HOT.out.alloc _) _ _ 1 _ (by rfl) (lies_lit _ _ _ 4 1 (by rfl)) (one4 _ _ _ _) (by omega) (by rw [sz_ad]; omega) ?_; intro v5 w5 hown5 hgrow5))
              all_goals (
                have hb5 := own_below hgrow5 (by rw [sz_ad]; omega) (HOT.out.alloc _)
                have HB5 := Lib.hid (((HBT.out.mono hsz).trans ((Cell.bel_alloc _ _).mono (by omega)).drew).trans hb5)
                have HO5 := Lib.hid hown5
                clear hown5 hgrow5 hb5
                go_wp2_with fail
                go_roundw
                case rel =>
                  refine ⟨r', ds ++ [⟨3, 0, ⟨#[]⟩, q⟩], _, _, _, rfl, HLR.out, ?_, HTL.out.below HB5.out, own_eqV HO5.out ?_ ?_, ?_, HB.out.trans HB5.out⟩
                  · rw [List.length_append, List.length_singleton]; omega
                  · rw [List.length_append, List.length_singleton]
                  · rw [vals_app]; rfl
                  · rw [HR.out, HN.out, Option.map_map]
                    congr 1
                    funext l
                    simp
                case measure => simp [sLen] <;> omega)
          · have ha' : (1 : Int) < a.toNat := by omega
            have HN : Hid (readL x = none) := Lib.hid (by rw [HR.out, readL_none (by show fMark b.toNat _ = _; rw [show b.toNat = 2 by omega]; exact if_neg ha)]; rfl)
            go_wp2_with fail
            go_ret2
            refine ⟨(HB.out.trans (HB1.out.mono hsz)), ?_⟩
            rw [HN.out]
            exact rfl
      by_cases h3 : (b.toNat : Int) = 3
      · rw [show ((b.toNat : Int)) = 3 from h3] at x0
        by_cases h8 : 8 ≤ m
        rotate_left
        · have h9 : ((m : Int) + 1) < 9 := by omega
          have HN : Hid (readL x = none) := Lib.hid (by rw [HR.out, readL_none (by show fMark b.toNat _ = _; rw [show b.toNat = 3 by omega]; show fNum r = none; unfold fNum; exact if_neg (by have h := HRL.out; omega))]; rfl)
          go_wp2_with fail
          go_ret2
          refine ⟨(HB.out.trans (HB1.out.mono hsz)), ?_⟩
          rw [HN.out]
          exact rfl
        · obtain ⟨m', rfl⟩ : ∃ m', m = m' + 8 := ⟨m - 8, by omega⟩
          have h9 : ¬ ((m' : Int) + 8 + 1) < 9 := by omega
          have hc1 : ¬ c' = 1 := by omega
          have hc9 : (9 : Int) ≤ c' := by omega
          obtain ⟨U, hU⟩ : ∃ U, beN (r.take 8) = U := ⟨_, rfl⟩
          have HU := Lib.hid hU
          have HFF0 : Hid (fFirst (b :: r) = some (⟨1, (U : Int) - 9223372036854775808, ⟨#[]⟩, false⟩, r.drop 8)) := Lib.hid (by
            show fMark b.toNat _ = _
            rw [show b.toNat = 3 by omega, ← hU]
            show fNum r = _
            unfold fNum
            exact if_pos (by have h := HRL.out; omega))
          clear hU
          go_wp2_with fail
          go_loop [7, 43] (fun u i => ∃ k : Nat, k ≤ 8 ∧ i = .int .i64 k ∧ u = .int .u64 (beN (r.take k) : Nat)) (fun _ i => 8 - (intOf i).toNat)
          case atStart => exact ⟨0, by omega, rfl, rfl⟩
          case round =>
            obtain ⟨k, hk, rfl, rfl⟩ := hrel
            by_cases hlt : k < 8
            · have hlt' : (k : Int) < 8 := by omega
              obtain ⟨d, hd⟩ : ∃ d, r[k]? = some d := ⟨_, List.getElem?_eq_getElem (by rw [HRL.out]; omega)⟩
              have w0 := u8s_at HA2.out hd
              rw [add_off] at w0
              have HSS : Hid (beN (r.take (k + 1)) = beN (r.take k) * 256 + d.toNat) := Lib.hid (by rw [take_succ_of hd, beN_snoc])
              have hlt2 : beN (r.take k) < 256 ^ 7 := by
                have h1 := beN_lt (r.take k)
                have h2 : (r.take k).length ≤ 7 := by rw [List.length_take]; omega
                exact Nat.lt_of_lt_of_le h1 (Nat.pow_le_pow_right (by omega) h2)
              have hlt3 : beN (r.take k) < 72057594037927936 := hlt2
              have hd8 := d.toNat_lt
              generalize beN (r.take k) = Z at *
              clear hd hlt2
              go_wp2_with fail
              go_round
              case rel =>
                refine ⟨k + 1, by omega, by go_num, ?_⟩
                rw [HSS.out]
                congr 1
                all_goals (first | omega | (simp only [IntKind.wrap_u64]; omega))
              case measure => simp [intOf]; omega
            · obtain rfl : k = 8 := by omega
              rw [HU.out]
              have hU64 : U < 18446744073709551616 := by
                have h1 := beN_lt (r.take 8)
                have h2 : (r.take 8).length ≤ 8 := by rw [List.length_take]; omega
                have h3 : 256 ^ (r.take 8).length ≤ 256 ^ 8 := Nat.pow_le_pow_right (by omega) h2
                rw [HU.out] at h1
                have h4 : (256 : Nat) ^ 8 = 18446744073709551616 := by decide
                omega
              have hun := unsub U hU64
              obtain ⟨I, hI⟩ : ∃ I, (U : Int) - 9223372036854775808 = I := ⟨_, rfl⟩
              have HFF : Hid (fFirst (b :: r) = some (⟨1, I, ⟨#[]⟩, false⟩, r.drop 8)) := Lib.hid (by rw [← hI]; exact HFF0.out)
              have HUN := Lib.hid (hun.trans hI)
              have HI := Lib.hid hI
              clear hI hU64 HFF0 hun
              obtain ⟨z0, z1, z2, z3, f0, f1, f2, f3, hlt⟩ := HSL1.out
              have HTL : Hid (Sl wr w.heap.size 1 (tlA (some ad) c' (9)) m' (c' - (9)) (u8s (r.drop 8))) := Lib.hid (Sl.tl (m := m') (k := 9) HS.out)
              have HN := Lib.hid (readL_some HFF.out)
              have HLR : Hid ((r.drop 8).length = m') := Lib.hid (by rw [List.length_drop, HRL.out]; omega)
              obtain ⟨y0, y1, y2, y3⟩ := ValAt.new wr ⟨1, I, ⟨#[]⟩, false⟩ 43
              dsimp only at y0 y1 y2 y3
              have HBT : Hid (Below wr.heap.size wr ((wr.alloc (.cells #[.int .u8 1, .int .i64 I, .string ⟨#[]⟩, .bool false] 43)))) := Lib.hid (Cell.bel_alloc _ _)
              have HOT := Lib.hid (ownV_kept HO.out HBT.out)
              have hszT := HBT.out.size
              by_cases hcK : c' = 9
              · subst hcK
                obtain rfl : m' = 0 := by omega
                have et : tlA (some ad) (9) (9) = some ad := by unfold tlA; rw [if_pos rfl]
                rw [et, Nat.sub_self] at HTL
                clear et
                go_wp2_with fail
                try simp only [HUN.out]
                generalize hWt : (wr.alloc (.cells #[.int .u8 1, .int .i64 I, .string ⟨#[]⟩, .bool false] 43)) = Wt at *
                go_region_held3 (fun w' => w'.cell? ⟨wr.heap.size, 0, none⟩ = some (.int .u8 1) ∧ w'.cell? ⟨wr.heap.size, 1, none⟩ = some (.int .i64 I) ∧ w'.cell? ⟨wr.heap.size, 2, none⟩ = some (.string ⟨#[]⟩) ∧ w'.cell? ⟨wr.heap.size, 3, none⟩ = some (.bool false)) (first | go_keep | exact kin4 hgrow5 (by assumption) HNE.out)
                  (first | (refine step_app_v (by rfl) _ _ (by rfl) w.heap.size u4 _ _ (by rfl) (HOT.out.alloc _) _ _ 1 _ (by rfl) (lies_lit _ _ _ 4 1 (by rfl)) (one4 _ _ _ _) (by omega) (by rw [sz_ad]; omega) ?_; intro v5 w5 hown5 hgrow5))
                all_goals (
                  have hb5 := own_below hgrow5 (by rw [sz_ad]; omega) (HOT.out.alloc _)
                  have HB5 := Lib.hid (((HBT.out.mono hsz).trans ((Cell.bel_alloc _ _).mono (by omega)).drew).trans hb5)
                  have HO5 := Lib.hid hown5
                  clear hown5 hgrow5 hb5
                  go_wp2_with fail
                  go_roundw
                  case rel =>
                    refine ⟨r.drop 8, ds ++ [⟨1, I, ⟨#[]⟩, false⟩], _, _, _, rfl, HLR.out, ?_, HTL.out.below HB5.out, own_eqV HO5.out ?_ ?_, ?_, HB.out.trans HB5.out⟩
                    · rw [List.length_append, List.length_singleton]; omega
                    · rw [List.length_append, List.length_singleton]
                    · rw [vals_app]; rfl
                    · rw [HR.out, HN.out, Option.map_map]
                      congr 1
                      funext l
                      simp
                  case measure => simp [sLen] <;> omega)
              · have et : tlA (some ad) c' (9) = some ⟨ad.block, ad.off + (9), none⟩ := by unfold tlA; rw [if_neg hcK]; try (show some (ad.add (9)) = _; rw [add_succ])
                rw [et] at HTL
                clear et
                have hi1 : ((9 : Nat) : Int) ≤ (((m' + 9 : Nat)) : Int) := by omega
                have hi2 : (((m' + 9 : Nat)) : Int) ≤ c' := by omega
                have hi3 : ((9 : Nat) : Int) ≤ c' := by omega
                push_cast at hi1 hi2 hi3
                go_wp2_with fail
                try simp only [HUN.out]
                generalize hWt : (wr.alloc (.cells #[.int .u8 1, .int .i64 I, .string ⟨#[]⟩, .bool false] 43)) = Wt at *
                go_region_held3 (fun w' => w'.cell? ⟨wr.heap.size, 0, none⟩ = some (.int .u8 1) ∧ w'.cell? ⟨wr.heap.size, 1, none⟩ = some (.int .i64 I) ∧ w'.cell? ⟨wr.heap.size, 2, none⟩ = some (.string ⟨#[]⟩) ∧ w'.cell? ⟨wr.heap.size, 3, none⟩ = some (.bool false)) (first | go_keep | exact kin4 hgrow5 (by assumption) HNE.out)
                  (first | (refine step_app_v (by rfl) _ _ (by rfl) w.heap.size u4 _ _ (by rfl) (HOT.out.alloc _) _ _ 1 _ (by rfl) (lies_lit _ _ _ 4 1 (by rfl)) (one4 _ _ _ _) (by omega) (by rw [sz_ad]; omega) ?_; intro v5 w5 hown5 hgrow5))
                all_goals (
                  have hb5 := own_below hgrow5 (by rw [sz_ad]; omega) (HOT.out.alloc _)
                  have HB5 := Lib.hid (((HBT.out.mono hsz).trans ((Cell.bel_alloc _ _).mono (by omega)).drew).trans hb5)
                  have HO5 := Lib.hid hown5
                  clear hown5 hgrow5 hb5
                  go_wp2_with fail
                  go_roundw
                  case rel =>
                    refine ⟨r.drop 8, ds ++ [⟨1, I, ⟨#[]⟩, false⟩], _, _, _, rfl, HLR.out, ?_, HTL.out.below HB5.out, own_eqV HO5.out ?_ ?_, ?_, HB.out.trans HB5.out⟩
                    · rw [List.length_append, List.length_singleton]; omega
                    · rw [List.length_append, List.length_singleton]
                    · rw [vals_app]; rfl
                    · rw [HR.out, HN.out, Option.map_map]
                      congr 1
                      funext l
                      simp
                  case measure => simp [sLen] <;> omega)
      by_cases h4 : (b.toNat : Int) = 4
      · rw [show ((b.toNat : Int)) = 4 from h4] at x0
        have hzl := zAt_le r
        obtain ⟨Z, hZ⟩ : ∃ Z, zAt r = Z := ⟨_, rfl⟩
        rw [hZ, HRL.out] at hzl
        have HZ := Lib.hid hZ
        clear hZ
        go_wp2_with fail
        go_loop [6] (fun nv => ∃ z : Nat, z ≤ Z ∧ nv = .int .i64 ((z : Int) + 1)) (fun nv => Z + 1 - (intOf nv).toNat)
        case atStart => exact ⟨0, by omega, rfl⟩
        case round =>
          obtain ⟨z, hz, rfl⟩ := hrel
          by_cases hzm : z < m
          · have hzm' : (z : Int) + 1 < (m : Int) + 1 := by omega
            obtain ⟨d, hd⟩ : ∃ d, r[z]? = some d := ⟨_, List.getElem?_eq_getElem (by rw [HRL.out]; omega)⟩
            have w1 := u8s_at HA1.out (j := z + 1) (b := d) (by rw [List.getElem?_cons_succ]; exact hd)
            rw [add_succ] at w1
            by_cases hlt : z < Z
            · have hd0 : d ≠ 0 := zAt_step hd (by rw [HZ.out]; exact hlt)
              have hq : ((d.toNat : Int) == 0) = false := by
                rw [beq_eq_false_iff_ne]
                intro h
                exact hd0 (UInt8.toNat_inj.1 (by show d.toNat = 0; omega))
              clear hd hd0
              go_wp2_with fail
              go_round
              case rel => exact ⟨z + 1, by omega, by go_num⟩
              case measure => simp [intOf]; omega
            · obtain rfl : z = Z := by omega
              have hd0 : d = 0 := by
                have h := zAt_stop (x := r) (by rw [HZ.out, HRL.out]; exact hzm)
                rw [HZ.out, hd] at h
                injection h
              subst hd0
              have hqe : ((z : Int) + 1 == (m : Int) + 1) = false := by rw [beq_eq_false_iff_ne]; omega
              have hc1 : ¬ c' = 1 := by omega
              have hst : (str (r.take z)).size ≤ maxLen := by
                show (r.take z).toArray.size ≤ _
                rw [List.size_toArray, List.length_take]
                unfold maxLen
                omega
              have hT1 : Sl wr w.heap.size 1 (tlA (some ad) c' 1) m (c' - 1) (u8s r) := Sl.tl (m := m) (k := 1) HS.out
              rw [show tlA (some ad) c' 1 = some ⟨ad.block, ad.off + 1, none⟩ by unfold tlA; rw [if_neg hc1]; rfl] at hT1
              have hT2 := hT1.take (k := z) (by omega)
              rw [Nat.mul_one, u8s_take] at hT2
              have hcv := conv_sl (hT2.below (HB1.out.mono hsz))
              obtain ⟨S, hS⟩ : ∃ S, str (r.take z) = S := ⟨_, rfl⟩
              rw [hS] at hcv hst
              have hi4 : (z : Int) + 1 ≤ c' := by omega
              have HFT : Hid (fFirst (b :: r) = if (⟨2, 0, S, false⟩ : V).right then some (⟨2, 0, S, false⟩, r.drop (z + 1)) else none) := Lib.hid (by
                show fMark b.toNat r = _
                rw [show b.toNat = 4 by omega]
                show fText r = _
                unfold fText
                rw [HZ.out, if_pos (by rw [HRL.out]; exact hzm), hS])
              have HVS := ValAt.new wr ⟨2, 0, S, false⟩ 43
              dsimp only at HVS
              have HV2 := Lib.hid HVS
              obtain ⟨y0, y1, y2, y3⟩ := HVS
              dsimp only at y0 y1 y2 y3
              have hltS := World.block_lt_of_cell? _ _ y0
              have HBS : Hid (Below wr.heap.size wr ((wr.alloc (.cells #[.int .u8 2, .int .i64 0, .string S, .bool false] 43)))) := Lib.hid (Cell.bel_alloc _ _)
              have C := Lib.hid (right_exact 2 0 S false hst ((wr.alloc (.cells #[.int .u8 2, .int .i64 0, .string S, .bool false] 43))))
              have HLTS := Lib.hid hltS
              obtain ⟨z0, z1, z2, z3, f0, f1, f2, f3, hlt0⟩ := HSL1.out
              obtain ⟨m', rfl⟩ : ∃ m', m = m' + (z + 1) := ⟨m - (z + 1), by omega⟩
              clear hd hT1 hT2 hS hst hltS
              cases hr : Cell.rightB 2 0 S false
              · rw [hr] at C
                have HM : Hid (fFirst (b :: r) = none) := Lib.hid (by rw [HFT.out]; exact if_neg (by show ¬ Cell.rightB 2 0 S false = true; rw [hr]; decide))
                clear hr
                go_wp2_with fail
                refine C.out.mono ?_
                rintro e w3 ⟨rfl, hb3⟩
                have HB3 := Lib.hid (Cell.bel_trans HBS.out hb3)
                clear hb3
                have HN : Hid (readL x = none) := Lib.hid (by rw [HR.out, readL_none (HM.out)]; rfl)
                go_wp2_with fail
                go_ret2
                refine ⟨HB.out.trans (HB3.out.mono hsz), ?_⟩
                rw [HN.out]
                exact rfl
              · rw [hr] at C
                have HFF : Hid (fFirst (b :: r) = some (⟨2, 0, S, false⟩, r.drop (z + 1))) := Lib.hid (by rw [HFT.out]; exact if_pos hr)
                clear hr HFT
                go_wp2_with fail
                refine C.out.mono ?_
                rintro e w3 ⟨rfl, hb3⟩
                have HB3 := Lib.hid (Cell.bel_trans HBS.out hb3)
                have HV3 := Lib.hid (HV2.out.below (B := ((wr.alloc (.cells #[.int .u8 2, .int .i64 0, .string S, .bool false] 43))).heap.size) HLTS.out hb3)
                clear hb3 y0 y1 y2 y3 z0 z1 z2 z3
                have HTL : Hid (Sl wr w.heap.size 1 (tlA (some ad) c' (z + 2)) m' (c' - (z + 2)) (u8s (r.drop (z + 1)))) := Lib.hid (Sl.tl (m := m') (k := z + 2) HS.out)
                have HN := Lib.hid (readL_some HFF.out)
                have HLR : Hid ((r.drop (z + 1)).length = m') := Lib.hid (by rw [List.length_drop, HRL.out]; omega)
                obtain ⟨y0, y1, y2, y3⟩ := HV3.out
                dsimp only at y0 y1 y2 y3
                have HBT : Hid (Below wr.heap.size wr (w3)) := Lib.hid (HB3.out)
                have HOT := Lib.hid (ownV_kept HO.out HBT.out)
                have hszT := HBT.out.size
                by_cases hcK : c' = z + 2
                · subst hcK
                  obtain rfl : m' = 0 := by omega
                  have et : tlA (some ad) (z + 2) (z + 2) = some ad := by unfold tlA; rw [if_pos rfl]
                  rw [et, Nat.sub_self] at HTL
                  clear et
                  go_wp2_with fail
                  have t1 : (0 : Int) ≤ (z : Int) + 1 + 1 := by omega
                  have t2 : (0 : Int) ≤ (z : Int) + 2 := by omega
                  have t3 : ((z : Int) + 1 + 1).toNat = z + 2 := by omega
                  have t4 : ((z : Int) + 2).toNat = z + 2 := by omega
                  have t5 : (z : Int) + 1 + 1 ≤ (z : Int) + 2 := by omega
                  generalize hWt : w3 = Wt at *
                  go_region_held3 (fun w' => w'.cell? ⟨wr.heap.size, 0, none⟩ = some (.int .u8 2) ∧ w'.cell? ⟨wr.heap.size, 1, none⟩ = some (.int .i64 0) ∧ w'.cell? ⟨wr.heap.size, 2, none⟩ = some (.string S) ∧ w'.cell? ⟨wr.heap.size, 3, none⟩ = some (.bool false)) (first | go_keep | exact kin4 hgrow5 (by assumption) HNE.out)
                    (first | (refine step_app_v (by rfl) _ _ (by rfl) w.heap.size u4 _ _ (by rfl) (HOT.out.alloc _) _ _ 1 _ (by rfl) (lies_lit _ _ _ 4 1 (by rfl)) (one4 _ _ _ _) (by omega) (by rw [sz_ad]; omega) ?_; intro v5 w5 hown5 hgrow5))
                  all_goals (
                    have hb5 := own_below hgrow5 (by rw [sz_ad]; omega) (HOT.out.alloc _)
                    have HB5 := Lib.hid (((HBT.out.mono hsz).trans ((Cell.bel_alloc _ _).mono (by omega)).drew).trans hb5)
                    have HO5 := Lib.hid hown5
                    clear hown5 hgrow5 hb5
                    go_wp2_with fail
                    go_roundw
                    case rel =>
                      refine ⟨r.drop (z + 1), ds ++ [⟨2, 0, S, false⟩], _, _, _, rfl, HLR.out, ?_, HTL.out.below HB5.out, own_eqV HO5.out ?_ ?_, ?_, HB.out.trans HB5.out⟩
                      · rw [List.length_append, List.length_singleton]; omega
                      · rw [List.length_append, List.length_singleton]
                      · rw [vals_app]; rfl
                      · rw [HR.out, HN.out, Option.map_map]
                        congr 1
                        funext l
                        simp
                    case measure => simp [sLen] <;> omega)
                · have et : tlA (some ad) c' (z + 2) = some ⟨ad.block, ad.off + (z + 2), none⟩ := by unfold tlA; rw [if_neg hcK]; try (show some (ad.add (z + 2)) = _; rw [add_succ])
                  rw [et] at HTL
                  clear et
                  have hi1 : ((z + 2 : Nat) : Int) ≤ (((m' + z + 2 : Nat)) : Int) := by omega
                  have hi2 : (((m' + z + 2 : Nat)) : Int) ≤ c' := by omega
                  have hi3 : ((z + 2 : Nat) : Int) ≤ c' := by omega
                  push_cast at hi1 hi2 hi3
                  go_wp2_with fail
                  have t1 : (0 : Int) ≤ (z : Int) + 1 + 1 := by omega
                  have t2 : (0 : Int) ≤ (z : Int) + 2 := by omega
                  have t3 : ((z : Int) + 1 + 1).toNat = z + 2 := by omega
                  have t4 : ((z : Int) + 2).toNat = z + 2 := by omega
                  have t5 : (z : Int) + 1 + 1 ≤ c' := by omega
                  have t6 : (z : Int) + 2 ≤ c' := by omega
                  have t7 : (z : Int) + 1 + 1 ≤ (m' : Int) + ((z : Int) + 1) + 1 := by omega
                  have t8 : (z : Int) + 2 ≤ (m' : Int) + ((z : Int) + 1) + 1 := by omega
                  have t9 : (m' : Int) + ((z : Int) + 1) + 1 ≤ c' := by omega
                  generalize hWt : w3 = Wt at *
                  go_region_held3 (fun w' => w'.cell? ⟨wr.heap.size, 0, none⟩ = some (.int .u8 2) ∧ w'.cell? ⟨wr.heap.size, 1, none⟩ = some (.int .i64 0) ∧ w'.cell? ⟨wr.heap.size, 2, none⟩ = some (.string S) ∧ w'.cell? ⟨wr.heap.size, 3, none⟩ = some (.bool false)) (first | go_keep | exact kin4 hgrow5 (by assumption) HNE.out)
                    (first | (refine step_app_v (by rfl) _ _ (by rfl) w.heap.size u4 _ _ (by rfl) (HOT.out.alloc _) _ _ 1 _ (by rfl) (lies_lit _ _ _ 4 1 (by rfl)) (one4 _ _ _ _) (by omega) (by rw [sz_ad]; omega) ?_; intro v5 w5 hown5 hgrow5))
                  all_goals (
                    have hb5 := own_below hgrow5 (by rw [sz_ad]; omega) (HOT.out.alloc _)
                    have HB5 := Lib.hid (((HBT.out.mono hsz).trans ((Cell.bel_alloc _ _).mono (by omega)).drew).trans hb5)
                    have HO5 := Lib.hid hown5
                    clear hown5 hgrow5 hb5
                    go_wp2_with fail
                    go_roundw
                    case rel =>
                      refine ⟨r.drop (z + 1), ds ++ [⟨2, 0, S, false⟩], _, _, _, rfl, HLR.out, ?_, HTL.out.below HB5.out, own_eqV HO5.out ?_ ?_, ?_, HB.out.trans HB5.out⟩
                      · rw [List.length_append, List.length_singleton]; omega
                      · rw [List.length_append, List.length_singleton]
                      · rw [vals_app]; rfl
                      · rw [HR.out, HN.out, Option.map_map]
                        congr 1
                        funext l
                        simp
                    case measure => simp [sLen] <;> omega)
          · obtain rfl : z = m := by omega
            obtain rfl : z = Z := by omega
            have HM : Hid (fFirst (b :: r) = none) := Lib.hid (by
              show fMark b.toNat r = _
              rw [show b.toNat = 4 by omega]
              show fText r = none
              unfold fText
              exact if_neg (by rw [HZ.out, HRL.out]; omega))
            have HN : Hid (readL x = none) := Lib.hid (by rw [HR.out, readL_none (HM.out)]; rfl)
            go_wp2_with fail
            go_ret2
            refine ⟨(HB.out.trans (HB1.out.mono hsz)), ?_⟩
            rw [HN.out]
            exact rfl
      have e1 : ((b.toNat : Int) == 1) = false := beq_eq_false_iff_ne.2 h1
      have e2 : ((b.toNat : Int) == 2) = false := beq_eq_false_iff_ne.2 h2
      have e3 : ((b.toNat : Int) == 3) = false := beq_eq_false_iff_ne.2 h3
      have e4 : ((b.toNat : Int) == 4) = false := beq_eq_false_iff_ne.2 h4
      have HM : Hid (fFirst (b :: r) = none) := Lib.hid (by
        show fMark b.toNat r = _
        unfold fMark
        rw [if_neg (by omega), if_neg (by omega), if_neg (by omega), if_neg (by omega)])
      have HN : Hid (readL x = none) := Lib.hid (by rw [HR.out, readL_none (HM.out)]; rfl)
      go_wp2_with fail
      go_ret2
      refine ⟨(HB.out.trans (HB1.out.mono hsz)), ?_⟩
      rw [HN.out]
      exact rfl
end Go.Proofs.YtfabcnbblhadnaaDoor.Mem
