/- PageStays: its walk. -/
import Derived.Test.YtbpgjpopmohbmaaStayA
import Derived.Deep.CutRange
import Derived.BigQuiet
import Derived.BigRegion
import Derived.Deep.RegionHeld3
namespace Go.Proofs.Ytbpgjpopmohbmaa.Mem
open Go.RowKit Go.Proofs.Ytbpgjpopmohbmaa.Nums
set_option linter.unusedVariables false
set_option linter.unusedSimpArgs false
set_option maxRecDepth 100000
set_option maxHeartbeats 8000000
theorem wtC_one (e : Wt) (h : ∀ v, e.1 = some v → e.2.oneCell' = true) : ∀ u ∈ wtC e, u.oneCell' = true := by
  obtain ⟨o, u⟩ := e
  intro y hy
  cases o with
  | none => simp [wtC] at hy; rcases hy with rfl | rfl | rfl <;> rfl
  | some v => simp [wtC] at hy; rcases hy with rfl | rfl | rfl | rfl | rfl | rfl <;> first | rfl | exact h v rfl
theorem sl_own' {w : World} {B n c : Nat} {e : TypeId} {A : Option Addr} {xs : List Value} (h : w.ownsRow B e 1 (.slice A n c) n xs) : Sl w w.heap.size 1 A n c xs := by
  obtain ⟨A', c', hv, hs⟩ := Sl.of_own h
  injection hv with h1 _ h3
  subst h1 h3
  exact hs
theorem insR_cases {L L' : SL} {st st' r a b : Nat} {p s qr xr : Int} {d : List UInt8} (h : insR L st r a b p s d = (qr, xr, L', st')) :
    (xr = 0 ∧ L' = (insS L st (mkV r a b p s d)).1 ∧ st' = (insS L st (mkV r a b p s d)).2 ∧ qr = (nextL L : Int) ∧ tuOk r a b p s d.length = true) ∨ (xr ≠ 0 ∧ L' = L ∧ st' = st) := by
  unfold insR at h
  split at h
  · rename_i hg
    split at h
    · injection h with h1 h; injection h with h2 h; injection h with h3 h4
      right
      exact ⟨by omega, h3.symm, h4.symm⟩
    · injection h with h1 h; injection h with h2 h; injection h with h3 h4
      left
      exact ⟨h2.symm, h3.symm, h4.symm, h1.symm, hg⟩
  · injection h with h1 h; injection h with h2 h; injection h with h3 h4
    right
    exact ⟨by omega, h3.symm, h4.symm⟩
theorem keep_b {w w' : World} (hb : Below w.heap.size w w') {p : Addr} {v : Value} (h : w.cell? p = some v) : w'.cell? p = some v := (hb.cell (block_lt_of_cell h)).trans h
theorem bool_one (b : Bool) : ∀ u ∈ [Value.bool b], u.oneCell' = true := by
  intro u hu
  simp at hu; subst hu; rfl
theorem stays_walk (w : World) (l : List Op5) (A : Option Addr) (n c : Nat) (o : Op5) (hl : l.length = n) (hs : Sl w w.heap.size 8 A n c (ops5 l)) (hok : ∀ o ∈ l, o.ok w) (hoo : o.ok w) :
    Calls Try.prog 6 #[.slice A n c, .agg o.cells.toArray] w fun e w' => e = .returned (.bool true) ∧ Below w.heap.size w w' := by
  show Calls Try.prog 6 #[.slice A n c, .agg #[.int .u8 o.z, .int .i64 o.i, .int .u64 o.r, .int .u64 o.a, .int .u64 o.b, .int .i64 o.p, .int .i64 o.s, .slice o.A o.n o.c]] w fun e w' => e = .returned (.bool true) ∧ Below w.heap.size w w'
  have HS := Lib.hid hs
  have HOK := Lib.hid hok
  have HOO := Lib.hid hoo
  have hz := hoo.z
  obtain ⟨b0, hb0⟩ : ∃ b0, w.heap.size = b0 := ⟨_, rfl⟩
  obtain ⟨W1, hW1⟩ : ∃ W1, w.alloc (.cells #[.int .u8 o.z, .int .i64 o.i, .int .u64 o.r, .int .u64 o.a, .int .u64 o.b, .int .i64 o.p, .int .i64 o.s, .slice o.A o.n o.c] 35) = W1 := ⟨_, rfl⟩
  have HO0 : Hid (Blk W1 b0 35 #[.int .u8 o.z, .int .i64 o.i, .int .u64 o.r, .int .u64 o.a, .int .u64 o.b, .int .i64 o.p, .int .i64 o.s, .slice o.A o.n o.c]) := Lib.hid (by rw [← hW1, ← hb0]; exact Blk.new w _ _)
  have HBA : Hid (Below b0 w W1) := Lib.hid (by rw [← hW1, ← hb0]; exact bel_alloc _ _)
  have HW1 := Lib.hid hW1
  have HBZ := Lib.hid hb0
  clear hs hok hoo hW1
  go_enter Try.func6, Try.ntmps6
  go_wp2_with fail
  rw [HW1.out]
  refine (awake5 _).mono ?_
  rintro e w1 ⟨rfl, hb1⟩
  have HB1 : Hid (Below b0 w w1) := Lib.hid (HBA.out.trans (hb1.mono (Nat.le_of_lt (Blk.lt HO0.out))))
  have HO1 := Lib.hid (Blk.below HO0.out hb1 (Blk.lt HO0.out))
  clear hb1
  go_wp2_with fail
  refine (build_any w1 l A n c hl (HS.out.on (by rw [HBZ.out]; exact HB1.out)) (fun o ho => (HOK.out o ho).below (by rw [HBZ.out]; exact HB1.out)) 30 (by omega)).mono ?_
  rintro e w2 ⟨P, R, L, st, rfl, hd⟩
  have HHp := Lib.hid hd.1
  have hlw : b0 < w1.heap.size := Blk.lt HO1.out
  have HB2 : Hid (Below b0 w w2) := Lib.hid (HB1.out.trans (hd.2.2.2.mono (by omega)))
  have HWP : Hid (b0 ≤ P) := Lib.hid (Nat.le_trans (Nat.le_of_lt hlw) hd.2.2.1)
  have HO2 := Lib.hid (Blk.below HO1.out hd.2.2.2 hlw)
  have hsm := hd.1.small
  have hL127 := hsm.1
  have HSI : Hid (SI w w2 P L [] none 0 none 0) := Lib.hid ⟨by obtain ⟨X, hX, _⟩ := hd.1; exact ⟨X, hX⟩, World.ownsRow_nil _ _ _ _, World.ownsRow_nil _ _ _ _, fun i v u hu => by simp at hu, fun i e hu => by simp at hu, by rw [HBZ.out]; exact HB2.out, by rw [HBZ.out]; exact HWP.out⟩
  clear hd hlw hsm
  go_wp2_with fail
  refine (slots_has P L st w2 HHp.out).mono ?_
  rintro e w3 ⟨rfl, rfl⟩
  go_wp2_with fail
  go_loopw [6, 7, 27] (fun wv tv i wl => ∃ (k : Nat) (l' : List Wt) (Aw : Option Addr) (cw : Nat) (At : Option Addr) (ct : Nat), k ≤ L.length ∧ l'.length = k ∧ wv = .slice Aw k cw ∧ tv = .slice At k ct ∧ i = .int .i64 k ∧ SI w wl P L l' Aw cw At ct ∧ Hp wl P L st ∧ Blk wl b0 35 #[.int .u8 o.z, .int .i64 o.i, .int .u64 o.r, .int .u64 o.a, .int .u64 o.b, .int .i64 o.p, .int .i64 o.s, .slice o.A o.n o.c]) (fun _ _ i _ => L.length - (intOf i).toNat)
  case atStart => exact ⟨0, [], none, 0, none, 0, by omega, rfl, rfl, rfl, rfl, HSI.out, HHp.out, HO2.out⟩
  case round =>
    obtain ⟨k, l', Aw, cw, At, ct, hk, hl', rfl, rfl, rfl, hsi, hhp, hop⟩ := hrel
    have HI := Lib.hid hsi
    have HP := Lib.hid hhp
    have HO := Lib.hid hop
    have HLK := Lib.hid hl'
    clear hsi hhp hop HSI
    by_cases hlt : k < L.length
    · have hlt' : (k : Int) < L.length := by omega
      cases hat : atL L (k : Int) with
      | none =>
        have CG := Lib.hid (get_has_none P L st k wr HP.out hat)
        unfold zeroT at CG
        have HVE : Hid ((none : Option Ver) = verO L (k : Int)) := Lib.hid (by unfold verO; rw [hat]; rfl)
        clear hat
        go_wp2_with fail
        refine CG.out.mono ?_
        rintro e w7 ⟨rfl, hb7⟩
        obtain ⟨w8, hw8⟩ : ∃ w8, w7.alloc (.cells #[.int .u64 0, .int .u64 0, .int .u64 0, .int .i64 0, .int .i64 0, .slice none 0 0] 33) = w8 := ⟨_, rfl⟩
        obtain ⟨T, hT⟩ : ∃ T, w7.heap.size = T := ⟨_, rfl⟩
        have hb8 : Below wr.heap.size wr w8 := by rw [← hw8]; exact bel_trans hb7 (bel_alloc _ _)
        have HI8 := Lib.hid (HI.out.below hb8)
        have HP8 := Lib.hid (HP.out.below hb8 HP.out.lt)
        have HO8 := Lib.hid (Blk.below HO.out hb8 (Blk.lt HO.out))
        have HBX : Hid (Blk w8 T 33 #[.int .u64 0, .int .u64 0, .int .u64 0, .int .i64 0, .int .i64 0, .slice none 0 0]) := Lib.hid (by rw [← hw8, ← hT]; exact Blk.new w7 _ _)

        have HW8 := Lib.hid (And.intro hw8 hT)
        have hws := HI.out.bel.size
        have hws8 : w.heap.size ≤ w8.heap.size := Nat.le_trans hws hb8.size
        clear hb7 hb8 hw8 hT
        go_upto_region 11 with fail
        rw [HW8.out.1, HW8.out.2]
        have x0 := HBX.out.cell 0
        have x1 := HBX.out.cell 1
        have x2 := HBX.out.cell 2
        have x3 := HBX.out.cell 3
        have x4 := HBX.out.cell 4
        have x5 := HBX.out.cell 5
        have hwas := HI8.out.was
        have hthe := HI8.out.the
        rw [hl'] at hwas hthe
        have HWAS := Lib.hid hwas
        have HTHE := Lib.hid hthe
        clear hwas hthe
        go_upto_region 12 with (at_builtin; go_loud (first
          | (refine wpl_app_tup rfl (.tmp 36) (.tmp 38) rfl w.heap.size _ k (wts l') rfl (World.ownsRow.alloc HWAS.out _) _ _ 1 (wtC ((none, .slice none 0 0) : Wt)) rfl (lies_at _ #[.int .u64 0, .int .u64 0, .int .u64 0, .int .i64 0, .int .i64 0, .slice none 0 0] _ 6 1 w8.heap.size rfl rfl) (wtC_one ((none, .slice none 0 0) : Wt) (fun v hv => rfl)) (by omega) (by rw [size_alloc]; omega) ?_; intro v1 w9 hown1 hk1; obtain ⟨A1, c1, hv1, _⟩ := Sl.of_own hown1; subst hv1; have ht9 := kin_keep hk1 (World.ownsRow.alloc HWAS.out _) (World.ownsRow.alloc HTHE.out _) (by decide); have hws9 : w.heap.size ≤ w9.heap.size := (ht9 : w9.ownsRow w.heap.size _ _ _ _ _) |> fun _ => Nat.le_trans (by rw [size_alloc]; omega) hk1.1.size)
          | (refine wpl_app_bool rfl (.tmp 40) (.tmp 42) rfl w.heap.size _ k (bls l') rfl (World.ownsRow.alloc ht9 _) _ _ 1 [.bool false] rfl (lies_at _ #[.bool false] _ 1 1 w9.heap.size rfl rfl) (bool_one _) (by omega) (by rw [size_alloc]; omega) ?_; intro v2 w10 hown2 hk2; obtain ⟨A2, c2, hv2, _⟩ := Sl.of_own hown2; subst hv2)))
        clear x0 x1 x2 x3 x4 x5
        subst hl'
        have HI10 := Lib.hid (HI8.out.more (e := ((none, .slice none 0 0) : Wt)) (by rw [← HVE.out]) (fun v' u' hh => by
          cases congrArg Prod.fst hh
        ) rfl hown1 hk1 rfl hown2 hk2)
        have HP10 : Hid (Hp w10 P L st) := Lib.hid (HP8.out.keep (by
          obtain ⟨X, hX, _⟩ := HP8.out
          have a1 := kin_pg hk1 (World.ownsRow.alloc HWAS.out _) (P := P) (X := X) ⟨Blk.alloc hX.1 _, hX.2⟩ (by decide)
          have a2 := kin_pg hk2 (World.ownsRow.alloc ht9 _) (P := P) (X := X) ⟨Blk.alloc a1.1 _, a1.2⟩ (by decide)
          exact a2.1.trans hX.1.symm))
        have HO10 : Hid (Blk w10 b0 35 #[.int .u8 o.z, .int .i64 o.i, .int .u64 o.r, .int .u64 o.a, .int .u64 o.b, .int .i64 o.p, .int .i64 o.s, .slice o.A o.n o.c]) := Lib.hid (by
          have a0 := Blk.alloc HO8.out (.cells #[.int .u64 0, .int .u64 0, .int .u64 0, .int .i64 0, .int .i64 0, .slice none 0 0] 33)
          have a1 := (hk1.1.block b0 (Blk.lt a0) (Ne.symm (own_blk_ne (World.ownsRow.alloc HWAS.out _) a0 (by decide)))).trans a0
          have a2 : Blk (w9.alloc (.cells #[.bool false] 4)) b0 _ _ := Blk.alloc a1 _
          exact (hk2.1.block b0 (Blk.lt a2) (Ne.symm (own_blk_ne (World.ownsRow.alloc ht9 _) a2 (by decide)))).trans a2)
        clear hown1 hk1 hown2 hk2 ht9
        go_wp2_with fail
        go_roundw
        case rel => exact ⟨l'.length + 1, _, _, _, _, _, by omega, by simp, rfl, rfl, by go_num, HI10.out, HP10.out, HO10.out⟩
        case measure => simp [intOf]; omega
      | some y =>
        obtain ⟨v, f⟩ := y
        have CG := Lib.hid (get_has_some P L st k v f wr HP.out hat)
        unfold tupV at CG
        obtain ⟨m, hm⟩ : ∃ m, v.d.length = m := ⟨_, rfl⟩
        have HM := Lib.hid hm
        rw [hm] at CG
        have HVE : Hid (some v = verO L (k : Int)) := Lib.hid (by unfold verO; rw [hat]; rfl)
        clear hat hm
        go_wp2_with fail
        refine CG.out.mono ?_
        rintro e w7 ⟨ut, rfl, hot, hb7⟩
        obtain ⟨Au, cu, rfl, _⟩ := Sl.of_own hot
        have HOT : Hid (w7.ownsRow w.heap.size 5 1 (.slice Au m cu) m (u8s v.d)) := Lib.hid (own_mono hot HI.out.bel.size)
        clear hot
        obtain ⟨w8, hw8⟩ : ∃ w8, w7.alloc (.cells #[.int .u64 v.r, .int .u64 v.a, .int .u64 v.b, .int .i64 ((v.p : Int) - 1), .int .i64 ((v.s : Int) - 1), .slice Au m cu] 33) = w8 := ⟨_, rfl⟩
        obtain ⟨T, hT⟩ : ∃ T, w7.heap.size = T := ⟨_, rfl⟩
        have hb8 : Below wr.heap.size wr w8 := by rw [← hw8]; exact bel_trans hb7 (bel_alloc _ _)
        have HI8 := Lib.hid (HI.out.below hb8)
        have HP8 := Lib.hid (HP.out.below hb8 HP.out.lt)
        have HO8 := Lib.hid (Blk.below HO.out hb8 (Blk.lt HO.out))
        have HBX : Hid (Blk w8 T 33 #[.int .u64 v.r, .int .u64 v.a, .int .u64 v.b, .int .i64 ((v.p : Int) - 1), .int .i64 ((v.s : Int) - 1), .slice Au m cu]) := Lib.hid (by rw [← hw8, ← hT]; exact Blk.new w7 _ _)
        have HOT8 : Hid (w8.ownsRow w.heap.size 5 1 (.slice Au m cu) m (u8s v.d)) := Lib.hid (by rw [← hw8]; exact World.ownsRow.alloc HOT.out _)
        have HW8 := Lib.hid (And.intro hw8 hT)
        have hws := HI.out.bel.size
        have hws8 : w.heap.size ≤ w8.heap.size := Nat.le_trans hws hb8.size
        clear hb7 hb8 hw8 hT
        go_upto_region 11 with fail
        rw [HW8.out.1, HW8.out.2]
        have x0 := HBX.out.cell 0
        have x1 := HBX.out.cell 1
        have x2 := HBX.out.cell 2
        have x3 := HBX.out.cell 3
        have x4 := HBX.out.cell 4
        have x5 := HBX.out.cell 5
        have hwas := HI8.out.was
        have hthe := HI8.out.the
        rw [hl'] at hwas hthe
        have HWAS := Lib.hid hwas
        have HTHE := Lib.hid hthe
        clear hwas hthe
        go_upto_region 12 with (at_builtin; go_loud (first
          | (refine wpl_app_tup rfl (.tmp 36) (.tmp 38) rfl w.heap.size _ k (wts l') rfl (World.ownsRow.alloc HWAS.out _) _ _ 1 (wtC ((some v, .slice Au m cu) : Wt)) rfl (lies_at _ #[.int .u64 v.r, .int .u64 v.a, .int .u64 v.b, .int .i64 ((v.p : Int) - 1), .int .i64 ((v.s : Int) - 1), .slice Au m cu] _ 6 1 w8.heap.size rfl rfl) (wtC_one ((some v, .slice Au m cu) : Wt) (fun v hv => rfl)) (by omega) (by rw [size_alloc]; omega) ?_; intro v1 w9 hown1 hk1; obtain ⟨A1, c1, hv1, _⟩ := Sl.of_own hown1; subst hv1; have ht9 := kin_keep hk1 (World.ownsRow.alloc HWAS.out _) (World.ownsRow.alloc HTHE.out _) (by decide); have hws9 : w.heap.size ≤ w9.heap.size := (ht9 : w9.ownsRow w.heap.size _ _ _ _ _) |> fun _ => Nat.le_trans (by rw [size_alloc]; omega) hk1.1.size)
          | (refine wpl_app_bool rfl (.tmp 40) (.tmp 42) rfl w.heap.size _ k (bls l') rfl (World.ownsRow.alloc ht9 _) _ _ 1 [.bool true] rfl (lies_at _ #[.bool true] _ 1 1 w9.heap.size rfl rfl) (bool_one _) (by omega) (by rw [size_alloc]; omega) ?_; intro v2 w10 hown2 hk2; obtain ⟨A2, c2, hv2, _⟩ := Sl.of_own hown2; subst hv2)))
        clear x0 x1 x2 x3 x4 x5
        subst hl'
        have HI10 := Lib.hid (HI8.out.more (e := ((some v, .slice Au m cu) : Wt)) (by rw [← HVE.out]) (fun v' u' hh => by
          have h1 : v = v' := by have := congrArg Prod.fst hh; injection this
          have h2 : Value.slice Au m cu = u' := congrArg Prod.snd hh
          rw [← h1, ← h2, HM.out]
          exact HOT8.out) rfl hown1 hk1 rfl hown2 hk2)
        have HP10 : Hid (Hp w10 P L st) := Lib.hid (HP8.out.keep (by
          obtain ⟨X, hX, _⟩ := HP8.out
          have a1 := kin_pg hk1 (World.ownsRow.alloc HWAS.out _) (P := P) (X := X) ⟨Blk.alloc hX.1 _, hX.2⟩ (by decide)
          have a2 := kin_pg hk2 (World.ownsRow.alloc ht9 _) (P := P) (X := X) ⟨Blk.alloc a1.1 _, a1.2⟩ (by decide)
          exact a2.1.trans hX.1.symm))
        have HO10 : Hid (Blk w10 b0 35 #[.int .u8 o.z, .int .i64 o.i, .int .u64 o.r, .int .u64 o.a, .int .u64 o.b, .int .i64 o.p, .int .i64 o.s, .slice o.A o.n o.c]) := Lib.hid (by
          have a0 := Blk.alloc HO8.out (.cells #[.int .u64 v.r, .int .u64 v.a, .int .u64 v.b, .int .i64 ((v.p : Int) - 1), .int .i64 ((v.s : Int) - 1), .slice Au m cu] 33)
          have a1 := (hk1.1.block b0 (Blk.lt a0) (Ne.symm (own_blk_ne (World.ownsRow.alloc HWAS.out _) a0 (by decide)))).trans a0
          have a2 : Blk (w9.alloc (.cells #[.bool true] 4)) b0 _ _ := Blk.alloc a1 _
          exact (hk2.1.block b0 (Blk.lt a2) (Ne.symm (own_blk_ne (World.ownsRow.alloc ht9 _) a2 (by decide)))).trans a2)
        clear hown1 hk1 hown2 hk2 ht9
        go_wp2_with fail
        go_roundw
        case rel => exact ⟨l'.length + 1, _, _, _, _, _, by omega, by simp, rfl, rfl, by go_num, HI10.out, HP10.out, HO10.out⟩
        case measure => simp [intOf]; omega
    · obtain rfl : k = L.length := by omega
      have hlk : l'.length = L.length := HLK.out
      obtain ⟨d, hd⟩ : ∃ d, o.x.take 230 = d := ⟨_, rfl⟩
      obtain ⟨m, hm⟩ : ∃ m, min o.n 230 = m := ⟨_, rfl⟩
      have HDL : Hid (d.length = m) := Lib.hid (by rw [← hd, ← hm, List.length_take, HOO.out.len]; omega)
      have hm230 : m ≤ 230 := by omega
      have CF := Lib.hid (few_any o.r o.a o.b o.p o.s o.A o.n o.c o.x wr (HOO.out.below HI.out.bel).sl)
      rw [hm, hd] at CF
      have o0 := HO.out.cell 0
      have o1 := HO.out.cell 1
      have o2 := HO.out.cell 2
      have o3 := HO.out.cell 3
      have o4 := HO.out.cell 4
      have o5 := HO.out.cell 5
      have o6 := HO.out.cell 6
      have o7 := HO.out.cell 7
      clear hd hm
      go_wp2_with fail
      clear o0 o1 o2 o3 o4 o5 o6 o7
      refine CF.out.mono ?_
      rintro e w6 ⟨uf, rfl, hof, hb6⟩
      obtain ⟨Au, cu, rfl, _⟩ := Sl.of_own hof
      obtain ⟨T, hT⟩ : ∃ T, w6.heap.size = T := ⟨_, rfl⟩
      obtain ⟨w20, hw20⟩ : ∃ w20, w6.alloc (.cells #[.int .u64 o.r, .int .u64 o.a, .int .u64 o.b, .int .i64 o.p, .int .i64 o.s, .slice Au m cu] 33) = w20 := ⟨_, rfl⟩
      have hb20 : Below wr.heap.size wr w20 := by rw [← hw20]; exact bel_trans hb6 (bel_alloc _ _)
      have HI20 := Lib.hid (HI.out.below hb20)
      have HP20 := Lib.hid (HP.out.below hb20 HP.out.lt)
      have HO20 := Lib.hid (Blk.below HO.out hb20 (Blk.lt HO.out))
      have HT20 : Hid (Blk w20 T 33 #[.int .u64 o.r, .int .u64 o.a, .int .u64 o.b, .int .i64 o.p, .int .i64 o.s, .slice Au m cu]) := Lib.hid (by rw [← hw20, ← hT]; exact Blk.new w6 _ _)
      have HU20 : Hid (w20.ownsRow w.heap.size 5 1 (.slice Au m cu) m (u8s d)) := Lib.hid (by rw [← hw20]; exact World.ownsRow.alloc (own_mono hof HI.out.bel.size) _)
      have HW20 := Lib.hid (And.intro hw20 hT)
      clear hof hb6 hb20 hw20 hT CF
      go_upto_region 14 with fail
      rw [HW20.out.1, HW20.out.2]
      have o0 := HO20.out.cell 0
      have o1 := HO20.out.cell 1
      have t0 := HT20.out.cell 0
      have t1 := HT20.out.cell 1
      have t2 := HT20.out.cell 2
      have t3 := HT20.out.cell 3
      have t4 := HT20.out.cell 4
      have t5 := HT20.out.cell 5
      have hTP : T ≠ P := by obtain ⟨X, hX, _⟩ := HP20.out; exact Blk.ne_ HT20.out hX.1 (by decide)
      by_cases h0 : o.z % 3 = 0
      · have e0 : (o.z % 3 == 0) = true := by rw [beq_iff_eq]; exact h0
        obtain ⟨y, hy⟩ : ∃ y, insR L st o.r o.a o.b o.p o.s d = y := ⟨_, rfl⟩
        obtain ⟨qr, xr, L', st'⟩ := y
        have CI := Lib.hid (insP HP20.out o.r o.a o.b o.p o.s d HDL.out (sl_own' HU20.out))
        rw [hy] at CI
        have HY := Lib.hid hy
        clear hy
        go_wp2_with fail
        clear o0 o1 t0 t1 t2 t3 t4 t5
        refine CI.out.mono ?_
        rintro e w21 ⟨rfl, hp21, ho21⟩
        have HP21 := Lib.hid hp21
        have HI21 : Hid (SI w w21 P L l' Aw cw At ct) := Lib.hid (HI20.out.only ho21 (by obtain ⟨X, hX, _⟩ := hp21; exact ⟨X, hX⟩))
        have HT21 := Lib.hid (ho21.blk HT20.out hTP)
        have HU21 : Hid (w21.ownsRow w.heap.size 5 1 (.slice Au m cu) m (u8s d)) := Lib.hid (own_keep HU20.out fun k hk => ho21.block k (HU20.out.lt k hk).2 (fun e => by obtain ⟨X, hX, _⟩ := HP20.out; exact own_blk_ne HU20.out hX.1 (by decide) (by rw [hk, e])))
        clear hp21 ho21 CI
        rcases insR_cases HY.out with ⟨hx0, hL', hst', hqr, hok⟩ | ⟨hx0, hL', hst'⟩
        · have hx : xr = 0 := hx0
          subst hx
          subst hqr
          obtain ⟨hvok, htv⟩ := mkV_ok hok
          obtain ⟨v0, hv0⟩ : ∃ v0, mkV o.r o.a o.b o.p o.s d = v0 := ⟨_, rfl⟩
          have hvd : v0.d = d := by rw [← hv0]; rfl
          rw [hv0] at hL' hst' htv
          obtain ⟨f0, hf0⟩ : ∃ f0, atL L' (nextL L : Int) = some (v0, f0) := by
            have := verO_new L st v0
            rw [← hL'] at this
            unfold verO at this
            cases hq : atL L' (nextL L : Int) with
            | none => rw [hq] at this; cases this
            | some y => obtain ⟨a1, b1⟩ := y; rw [hq] at this; injection this with this; have this' : a1 = v0 := this; subst this'; exact ⟨b1, rfl⟩
          have CG := Lib.hid (get_has_some P L' st' (nextL L : Int) v0 f0 w21 HP21.out hf0)
          rw [hvd, HDL.out] at CG
          have HTV := Lib.hid htv
          have HVV : Hid (∀ i : Nat, (i : Int) ≠ (nextL L : Int) → verO L' (i : Int) = verO L (i : Int)) := Lib.hid (fun i hi => by rw [hL']; exact verO_ins (by omega))
          clear hf0 hv0 hvok hL' hst' htv hok HY hvd
          obtain ⟨ql, hql0⟩ : ∃ ql, nextL L = ql := ⟨_, rfl⟩
          rw [hql0] at CG HVV ⊢
          have HQL := Lib.hid hql0
          clear hql0
          go_wp2_with fail
          refine CG.out.mono ?_
          rintro e w22 ⟨ug, rfl, hog, hb22⟩
          rw [HTV.out]
          obtain ⟨Ag, cg, rfl, _⟩ := Sl.of_own hog
          obtain ⟨TG, hTG⟩ : ∃ TG, w22.heap.size = TG := ⟨_, rfl⟩
          obtain ⟨w23, hw23⟩ : ∃ w23, w22.alloc (.cells #[.int .u64 o.r, .int .u64 o.a, .int .u64 o.b, .int .i64 o.p, .int .i64 o.s, .slice Ag m cg] 33) = w23 := ⟨_, rfl⟩
          have hb23 : Below w21.heap.size w21 w23 := by rw [← hw23]; exact bel_trans hb22 (bel_alloc _ _)
          have HI23 := Lib.hid (HI21.out.below hb23)
          have HP23 := Lib.hid (HP21.out.below hb23 HP21.out.lt)
          have HT23 := Lib.hid (Blk.below HT21.out hb23 (Blk.lt HT21.out))
          have HU23 : Hid (w23.ownsRow w.heap.size 5 1 (.slice Au m cu) m (u8s d)) := Lib.hid (own_keep HU21.out fun k hk => hb23.block k (HU21.out.lt k hk).2)
          have HG23 : Hid (Blk w23 TG 33 #[.int .u64 o.r, .int .u64 o.a, .int .u64 o.b, .int .i64 o.p, .int .i64 o.s, .slice Ag m cg]) := Lib.hid (by rw [← hw23, ← hTG]; exact Blk.new w22 _ _)
          have HOG23 : Hid (w23.ownsRow w21.heap.size 5 1 (.slice Ag m cg) m (u8s d)) := Lib.hid (by rw [← hw23]; exact World.ownsRow.alloc hog _)
          have HW23 := Lib.hid (And.intro hw23 hTG)
          clear hog hb22 hb23 hw23 hTG CG
          go_upto_region 23 with fail
          rw [HW23.out.1, HW23.out.2]
          have x0 := HG23.out.cell 0
          have x1 := HG23.out.cell 1
          have x2 := HG23.out.cell 2
          have x3 := HG23.out.cell 3
          have x4 := HG23.out.cell 4
          have x5 := HG23.out.cell 5
          have t0 := HT23.out.cell 0
          have t1 := HT23.out.cell 1
          have t2 := HT23.out.cell 2
          have t3 := HT23.out.cell 3
          have t4 := HT23.out.cell 4
          have t5 := HT23.out.cell 5
          go_wp2_with fail
          clear x0 x1 x2 x3 x4 x5 t0 t1 t2 t3 t4 t5
          refine (samet_yes o.r o.a o.b o.p o.s Ag Au m cg m cu d w23 (sl_own' HOG23.out) (sl_own' HU23.out)).mono ?_
          rintro e w24 ⟨rfl, hb24⟩
          have HI24 := Lib.hid (HI23.out.below hb24)
          have HP24 := Lib.hid (HP23.out.below hb24 HP23.out.lt)
          clear hb24
          go_wp2_with fail
          go_loopw [90] (fun i wl => ∃ q : Nat, q ≤ L.length ∧ i = .int .i64 q ∧ SI w wl P L l' Aw cw At ct ∧ Hp wl P L' st') (fun i _ => L.length - (intOf i).toNat)
          case atStart => exact ⟨0, by omega, rfl, HI24.out, HP24.out⟩
          case round =>
            obtain ⟨q, hq, rfl, hsi, hhp⟩ := hrel
            have HJ := Lib.hid hsi
            have HQ := Lib.hid hhp
            clear hsi hhp
            by_cases hlt : q < L.length
            · have hlt' : (q : Int) < L.length := by omega
              cases hat : atL L' (q : Int) with
              | none =>
                have CG := Lib.hid (get_has_none P L' st' q wr HQ.out hat)
                unfold zeroT at CG
                have HVE : Hid (verO L' (q : Int) = none) := Lib.hid (by unfold verO; rw [hat]; rfl)
                clear hat
                go_wp2_with fail
                refine CG.out.mono ?_
                rintro e w30 ⟨rfl, hb30⟩
                obtain ⟨T8, hT8⟩ : ∃ T8, w30.heap.size = T8 := ⟨_, rfl⟩
                obtain ⟨w31, hw31⟩ : ∃ w31, w30.alloc (.cells #[.int .u64 0, .int .u64 0, .int .u64 0, .int .i64 0, .int .i64 0, .slice none 0 0] 33) = w31 := ⟨_, rfl⟩
                have hb31 : Below wr.heap.size wr w31 := by rw [← hw31]; exact bel_trans hb30 (bel_alloc _ _)
                have HJ31 := Lib.hid (HJ.out.below hb31)
                have HQ31 := Lib.hid (HQ.out.below hb31 HQ.out.lt)
                have HB31 : Hid (Blk w31 T8 33 #[.int .u64 0, .int .u64 0, .int .u64 0, .int .i64 0, .int .i64 0, .slice none 0 0]) := Lib.hid (by rw [← hw31, ← hT8]; exact Blk.new w30 _ _)
                have HW31 := Lib.hid (And.intro hw31 hT8)
                clear hb30 hb31 hw31 hT8
                go_upto_region 31 with fail
                rw [HW31.out.1, HW31.out.2]
                have hql : q < l'.length := by omega
                obtain ⟨⟨eo, eu⟩, hel⟩ : ∃ e, l'[q]? = some e := ⟨_, List.getElem?_eq_getElem hql⟩
                by_cases hsl : (q : Int) = (ql : Int)
                · have e1 : ((q : Int) == (ql : Int)) = true := by rw [beq_iff_eq]; exact hsl
                  have e2 : ((q : Int) != (ql : Int)) = false := by rw [bne, e1]; rfl
                  have HSL := Lib.hid hsl
                  clear hsl
                  go_wp2_with fail
                  go_quiet (fail)
                  go_wp2_with fail
                  go_roundw
                  case rel => exact ⟨q + 1, by omega, by go_num, HJ31.out.below ⟨rfl, rfl, rfl, Nat.le_refl _, fun _ _ => rfl⟩, HQ31.out.drewN _⟩
                  case measure => simp [intOf] <;> omega
                · have e1 : ((q : Int) == (ql : Int)) = false := beq_eq_false_iff_ne.2 hsl
                  have heo : eo = verO L' (q : Int) := by first | (rw [HVV.out q hsl]; exact HJ.out.is q _ hel) | exact HJ.out.is q _ hel
                  rw [HVE.out] at heo
                  subst heo
                  obtain ⟨g, g2, rfl, rfl, hcw, hct, hlw, hlt2⟩ := HJ31.out.at_ hel
                  have c0 := hcw 0 (by omega)
                  have c1 := hcw 1 (by omega)
                  have c2 := hcw 2 (by omega)
                  have c3 := hcw 3 (by omega)
                  have c4 := hcw 4 (by omega)
                  have c5 := hcw 5 (by omega)
                  have HSAME : Hid (∀ w0, Below w31.heap.size w31 w0 → Calls Try.prog 28 #[.agg #[.int .u64 0, .int .u64 0, .int .u64 0, .int .i64 0, .int .i64 0, .slice none 0 0], .agg #[.int .u64 0, .int .u64 0, .int .u64 0, .int .i64 0, .int .i64 0, .slice none 0 0]] w0 fun e w' => e = .returned (.bool true) ∧ Below w0.heap.size w0 w') := Lib.hid (fun w0 hb => by
                    have sn : Sl w0 w0.heap.size 1 none 0 0 (u8s []) := ⟨rfl, Nat.le_refl _, by unfold maxLen; omega, fun _ => rfl, fun h => absurd h (by omega)⟩
                    exact samet_yes 0 0 0 0 0 none none 0 0 0 0 [] w0 sn sn)
                  rw [hlk] at hlw hlt2
                  simp only [wtC, Nat.add_zero] at c0 c1 c2 c3 c4 c5
                  have x0 := HB31.out.cell 0
                  have x1 := HB31.out.cell 1
                  have x2 := HB31.out.cell 2
                  have x3 := HB31.out.cell 3
                  have x4 := HB31.out.cell 4
                  have x5 := HB31.out.cell 5
                  clear hel hcw
                  have e2 : ((q : Int) != (ql : Int)) = true := by rw [bne, e1]; rfl
                  have e3 : ∀ b : Bool, (b != b) = false := fun b => by cases b <;> rfl
                  go_region_held3 (fun w' => w'.cell? ⟨T8, 0, none⟩ = some (.int .u64 0) ∧ w'.cell? ⟨T8, 1, none⟩ = some (.int .u64 0) ∧ w'.cell? ⟨T8, 2, none⟩ = some (.int .u64 0) ∧ w'.cell? ⟨T8, 3, none⟩ = some (.int .i64 0) ∧ w'.cell? ⟨T8, 4, none⟩ = some (.int .i64 0) ∧ w'.cell? ⟨T8, 5, none⟩ = some (.slice none 0 0) ∧ w'.cell? ⟨g, q * 6, none⟩ = some (.int .u64 0) ∧ w'.cell? ⟨g, q * 6 + 1, none⟩ = some (.int .u64 0) ∧ w'.cell? ⟨g, q * 6 + 2, none⟩ = some (.int .u64 0) ∧ w'.cell? ⟨g, q * 6 + 3, none⟩ = some (.int .i64 0) ∧ w'.cell? ⟨g, q * 6 + 4, none⟩ = some (.int .i64 0) ∧ w'.cell? ⟨g, q * 6 + 5, none⟩ = some (.slice none 0 0) ∧ w'.cell? ⟨g2, q, none⟩ = some (.bool false)) (first | go_keep | exact ⟨keep_b hb32 x0, keep_b hb32 x1, keep_b hb32 x2, keep_b hb32 x3, keep_b hb32 x4, keep_b hb32 x5, keep_b hb32 c0, keep_b hb32 c1, keep_b hb32 c2, keep_b hb32 c3, keep_b hb32 c4, keep_b hb32 c5, keep_b hb32 hct⟩) (first | (go_at_call 28; refine (HSAME.out _ (by first | exact (Below.refl _ _).drew | exact Below.refl _ _)).mono ?_; rintro e w32 ⟨rfl, hb32⟩))
                  go_wp2_with fail
                  go_roundw
                  case rel => exact ⟨q + 1, by omega, by go_num, HJ31.out.below ((Below.refl _ _).drew.trans hb32), HQ31.out.below ((Below.refl _ _).drew.trans hb32) HQ31.out.lt⟩
                  case measure => simp [intOf]; omega
              | some y =>
                obtain ⟨v, f⟩ := y
                have CG := Lib.hid (get_has_some P L' st' q v f wr HQ.out hat)
                unfold tupV at CG
                have HVE : Hid (verO L' (q : Int) = some v) := Lib.hid (by unfold verO; rw [hat]; rfl)
                obtain ⟨mg, hmg⟩ : ∃ mg, v.d.length = mg := ⟨_, rfl⟩
                have HMG := Lib.hid hmg
                rw [hmg] at CG
                clear hat hmg
                go_wp2_with fail
                refine CG.out.mono ?_
                rintro e w30 ⟨ug, rfl, hog, hb30⟩
                obtain ⟨Ag, cg, rfl, _⟩ := Sl.of_own hog
                have HOG : Hid (w30.ownsRow wr.heap.size 5 1 (.slice Ag mg cg) mg (u8s v.d)) := Lib.hid hog
                clear hog
                obtain ⟨T8, hT8⟩ : ∃ T8, w30.heap.size = T8 := ⟨_, rfl⟩
                obtain ⟨w31, hw31⟩ : ∃ w31, w30.alloc (.cells #[.int .u64 v.r, .int .u64 v.a, .int .u64 v.b, .int .i64 ((v.p : Int) - 1), .int .i64 ((v.s : Int) - 1), .slice Ag mg cg] 33) = w31 := ⟨_, rfl⟩
                have hb31 : Below wr.heap.size wr w31 := by rw [← hw31]; exact bel_trans hb30 (bel_alloc _ _)
                have HJ31 := Lib.hid (HJ.out.below hb31)
                have HQ31 := Lib.hid (HQ.out.below hb31 HQ.out.lt)
                have HB31 : Hid (Blk w31 T8 33 #[.int .u64 v.r, .int .u64 v.a, .int .u64 v.b, .int .i64 ((v.p : Int) - 1), .int .i64 ((v.s : Int) - 1), .slice Ag mg cg]) := Lib.hid (by rw [← hw31, ← hT8]; exact Blk.new w30 _ _)
                have HOG31 : Hid (w31.ownsRow wr.heap.size 5 1 (.slice Ag mg cg) mg (u8s v.d)) := Lib.hid (by rw [← hw31]; exact World.ownsRow.alloc HOG.out _)
                have HW31 := Lib.hid (And.intro hw31 hT8)
                clear hb30 hb31 hw31 hT8
                go_upto_region 31 with fail
                rw [HW31.out.1, HW31.out.2]
                have hql : q < l'.length := by omega
                obtain ⟨⟨eo, eu⟩, hel⟩ : ∃ e, l'[q]? = some e := ⟨_, List.getElem?_eq_getElem hql⟩
                by_cases hsl : (q : Int) = (ql : Int)
                · have e1 : ((q : Int) == (ql : Int)) = true := by rw [beq_iff_eq]; exact hsl
                  have e2 : ((q : Int) != (ql : Int)) = false := by rw [bne, e1]; rfl
                  have HSL := Lib.hid hsl
                  clear hsl
                  go_wp2_with fail
                  go_quiet (fail)
                  go_wp2_with fail
                  go_roundw
                  case rel => exact ⟨q + 1, by omega, by go_num, HJ31.out.below ⟨rfl, rfl, rfl, Nat.le_refl _, fun _ _ => rfl⟩, HQ31.out.drewN _⟩
                  case measure => simp [intOf] <;> omega
                · have e1 : ((q : Int) == (ql : Int)) = false := beq_eq_false_iff_ne.2 hsl
                  have heo : eo = verO L' (q : Int) := by first | (rw [HVV.out q hsl]; exact HJ.out.is q _ hel) | exact HJ.out.is q _ hel
                  rw [HVE.out] at heo
                  subst heo
                  obtain ⟨g, g2, rfl, rfl, hcw, hct, hlw, hlt2⟩ := HJ31.out.at_ hel
                  have c0 := hcw 0 (by omega)
                  have c1 := hcw 1 (by omega)
                  have c2 := hcw 2 (by omega)
                  have c3 := hcw 3 (by omega)
                  have c4 := hcw 4 (by omega)
                  have c5 := hcw 5 (by omega)
                  obtain ⟨Ax, cx, rfl, _⟩ := Sl.of_own (HJ31.out.dat q v eu hel)
                  have HSAME : Hid (∀ w0, Below w31.heap.size w31 w0 → Calls Try.prog 28 #[.agg #[.int .u64 v.r, .int .u64 v.a, .int .u64 v.b, .int .i64 ((v.p : Int) - 1), .int .i64 ((v.s : Int) - 1), .slice Ag mg cg], .agg #[.int .u64 v.r, .int .u64 v.a, .int .u64 v.b, .int .i64 ((v.p : Int) - 1), .int .i64 ((v.s : Int) - 1), .slice Ax mg cx]] w0 fun e w' => e = .returned (.bool true) ∧ Below w0.heap.size w0 w') := Lib.hid (fun w0 hb => samet_yes v.r v.a v.b _ _ Ag Ax mg cg mg cx v.d w0 ((sl_own' HOG31.out).on hb) (by have := HJ31.out.dat q v _ hel; rw [HMG.out] at this; exact (sl_own' this).on hb))
                  rw [HMG.out] at c5
                  rw [hlk] at hlw hlt2
                  simp only [wtC, Nat.add_zero] at c0 c1 c2 c3 c4 c5
                  have x0 := HB31.out.cell 0
                  have x1 := HB31.out.cell 1
                  have x2 := HB31.out.cell 2
                  have x3 := HB31.out.cell 3
                  have x4 := HB31.out.cell 4
                  have x5 := HB31.out.cell 5
                  clear hel hcw
                  have e2 : ((q : Int) != (ql : Int)) = true := by rw [bne, e1]; rfl
                  have e3 : ∀ b : Bool, (b != b) = false := fun b => by cases b <;> rfl
                  go_region_held3 (fun w' => w'.cell? ⟨T8, 0, none⟩ = some (.int .u64 v.r) ∧ w'.cell? ⟨T8, 1, none⟩ = some (.int .u64 v.a) ∧ w'.cell? ⟨T8, 2, none⟩ = some (.int .u64 v.b) ∧ w'.cell? ⟨T8, 3, none⟩ = some (.int .i64 ((v.p : Int) - 1)) ∧ w'.cell? ⟨T8, 4, none⟩ = some (.int .i64 ((v.s : Int) - 1)) ∧ w'.cell? ⟨T8, 5, none⟩ = some (.slice Ag mg cg) ∧ w'.cell? ⟨g, q * 6, none⟩ = some (.int .u64 v.r) ∧ w'.cell? ⟨g, q * 6 + 1, none⟩ = some (.int .u64 v.a) ∧ w'.cell? ⟨g, q * 6 + 2, none⟩ = some (.int .u64 v.b) ∧ w'.cell? ⟨g, q * 6 + 3, none⟩ = some (.int .i64 ((v.p : Int) - 1)) ∧ w'.cell? ⟨g, q * 6 + 4, none⟩ = some (.int .i64 ((v.s : Int) - 1)) ∧ w'.cell? ⟨g, q * 6 + 5, none⟩ = some (.slice Ax mg cx) ∧ w'.cell? ⟨g2, q, none⟩ = some (.bool true)) (first | go_keep | exact ⟨keep_b hb32 x0, keep_b hb32 x1, keep_b hb32 x2, keep_b hb32 x3, keep_b hb32 x4, keep_b hb32 x5, keep_b hb32 c0, keep_b hb32 c1, keep_b hb32 c2, keep_b hb32 c3, keep_b hb32 c4, keep_b hb32 c5, keep_b hb32 hct⟩) (first | (go_at_call 28; refine (HSAME.out _ (by first | exact (Below.refl _ _).drew | exact Below.refl _ _)).mono ?_; rintro e w32 ⟨rfl, hb32⟩))
                  go_wp2_with fail
                  go_roundw
                  case rel => exact ⟨q + 1, by omega, by go_num, HJ31.out.below ((Below.refl _ _).drew.trans hb32), HQ31.out.below ((Below.refl _ _).drew.trans hb32) HQ31.out.lt⟩
                  case measure => simp [intOf]; omega
            · obtain rfl : q = L.length := by omega
              go_wp2_with fail
              go_ret
              exact ⟨rfl, HJ.out.bel⟩
        · have ex : (xr == 0) = false := beq_eq_false_iff_ne.2 hx0
          rw [hL', hst'] at HP21
          clear hL' hst' HY
          have HVV : Hid (∀ i : Nat, (i : Int) ≠ -1 → verO L (i : Int) = verO L (i : Int)) := Lib.hid (fun i _ => rfl)
          go_wp2_with fail
          have hx1 : (xr != 0) = true := by rw [bne, ex]; rfl
          rw [hx1]
          go_loopw [90] (fun i wl => ∃ q : Nat, q ≤ L.length ∧ i = .int .i64 q ∧ SI w wl P L l' Aw cw At ct ∧ Hp wl P L st) (fun i _ => L.length - (intOf i).toNat)
          case atStart => exact ⟨0, by omega, rfl, HI21.out, HP21.out⟩
          case round =>
            obtain ⟨q, hq, rfl, hsi, hhp⟩ := hrel
            have HJ := Lib.hid hsi
            have HQ := Lib.hid hhp
            clear hsi hhp
            by_cases hlt : q < L.length
            · have hlt' : (q : Int) < L.length := by omega
              cases hat : atL L (q : Int) with
              | none =>
                have CG := Lib.hid (get_has_none P L st q wr HQ.out hat)
                unfold zeroT at CG
                have HVE : Hid (verO L (q : Int) = none) := Lib.hid (by unfold verO; rw [hat]; rfl)
                clear hat
                go_wp2_with fail
                refine CG.out.mono ?_
                rintro e w30 ⟨rfl, hb30⟩
                obtain ⟨T8, hT8⟩ : ∃ T8, w30.heap.size = T8 := ⟨_, rfl⟩
                obtain ⟨w31, hw31⟩ : ∃ w31, w30.alloc (.cells #[.int .u64 0, .int .u64 0, .int .u64 0, .int .i64 0, .int .i64 0, .slice none 0 0] 33) = w31 := ⟨_, rfl⟩
                have hb31 : Below wr.heap.size wr w31 := by rw [← hw31]; exact bel_trans hb30 (bel_alloc _ _)
                have HJ31 := Lib.hid (HJ.out.below hb31)
                have HQ31 := Lib.hid (HQ.out.below hb31 HQ.out.lt)
                have HB31 : Hid (Blk w31 T8 33 #[.int .u64 0, .int .u64 0, .int .u64 0, .int .i64 0, .int .i64 0, .slice none 0 0]) := Lib.hid (by rw [← hw31, ← hT8]; exact Blk.new w30 _ _)
                have HW31 := Lib.hid (And.intro hw31 hT8)
                clear hb30 hb31 hw31 hT8
                go_upto_region 31 with fail
                rw [HW31.out.1, HW31.out.2]
                have hql : q < l'.length := by omega
                obtain ⟨⟨eo, eu⟩, hel⟩ : ∃ e, l'[q]? = some e := ⟨_, List.getElem?_eq_getElem hql⟩
                by_cases hsl : (q : Int) = (-1)
                · exact absurd hsl (by omega)
                · have e1 : ((q : Int) == (-1)) = false := beq_eq_false_iff_ne.2 hsl
                  have heo : eo = verO L (q : Int) := by first | (rw [HVV.out q hsl]; exact HJ.out.is q _ hel) | exact HJ.out.is q _ hel
                  rw [HVE.out] at heo
                  subst heo
                  obtain ⟨g, g2, rfl, rfl, hcw, hct, hlw, hlt2⟩ := HJ31.out.at_ hel
                  have c0 := hcw 0 (by omega)
                  have c1 := hcw 1 (by omega)
                  have c2 := hcw 2 (by omega)
                  have c3 := hcw 3 (by omega)
                  have c4 := hcw 4 (by omega)
                  have c5 := hcw 5 (by omega)
                  have HSAME : Hid (∀ w0, Below w31.heap.size w31 w0 → Calls Try.prog 28 #[.agg #[.int .u64 0, .int .u64 0, .int .u64 0, .int .i64 0, .int .i64 0, .slice none 0 0], .agg #[.int .u64 0, .int .u64 0, .int .u64 0, .int .i64 0, .int .i64 0, .slice none 0 0]] w0 fun e w' => e = .returned (.bool true) ∧ Below w0.heap.size w0 w') := Lib.hid (fun w0 hb => by
                    have sn : Sl w0 w0.heap.size 1 none 0 0 (u8s []) := ⟨rfl, Nat.le_refl _, by unfold maxLen; omega, fun _ => rfl, fun h => absurd h (by omega)⟩
                    exact samet_yes 0 0 0 0 0 none none 0 0 0 0 [] w0 sn sn)
                  rw [hlk] at hlw hlt2
                  simp only [wtC, Nat.add_zero] at c0 c1 c2 c3 c4 c5
                  have x0 := HB31.out.cell 0
                  have x1 := HB31.out.cell 1
                  have x2 := HB31.out.cell 2
                  have x3 := HB31.out.cell 3
                  have x4 := HB31.out.cell 4
                  have x5 := HB31.out.cell 5
                  clear hel hcw
                  have e2 : ((q : Int) != (-1)) = true := by rw [bne, e1]; rfl
                  have e3 : ∀ b : Bool, (b != b) = false := fun b => by cases b <;> rfl
                  go_region_held3 (fun w' => w'.cell? ⟨T8, 0, none⟩ = some (.int .u64 0) ∧ w'.cell? ⟨T8, 1, none⟩ = some (.int .u64 0) ∧ w'.cell? ⟨T8, 2, none⟩ = some (.int .u64 0) ∧ w'.cell? ⟨T8, 3, none⟩ = some (.int .i64 0) ∧ w'.cell? ⟨T8, 4, none⟩ = some (.int .i64 0) ∧ w'.cell? ⟨T8, 5, none⟩ = some (.slice none 0 0) ∧ w'.cell? ⟨g, q * 6, none⟩ = some (.int .u64 0) ∧ w'.cell? ⟨g, q * 6 + 1, none⟩ = some (.int .u64 0) ∧ w'.cell? ⟨g, q * 6 + 2, none⟩ = some (.int .u64 0) ∧ w'.cell? ⟨g, q * 6 + 3, none⟩ = some (.int .i64 0) ∧ w'.cell? ⟨g, q * 6 + 4, none⟩ = some (.int .i64 0) ∧ w'.cell? ⟨g, q * 6 + 5, none⟩ = some (.slice none 0 0) ∧ w'.cell? ⟨g2, q, none⟩ = some (.bool false)) (first | go_keep | exact ⟨keep_b hb32 x0, keep_b hb32 x1, keep_b hb32 x2, keep_b hb32 x3, keep_b hb32 x4, keep_b hb32 x5, keep_b hb32 c0, keep_b hb32 c1, keep_b hb32 c2, keep_b hb32 c3, keep_b hb32 c4, keep_b hb32 c5, keep_b hb32 hct⟩) (first | (go_at_call 28; refine (HSAME.out _ (by first | exact (Below.refl _ _).drew | exact Below.refl _ _)).mono ?_; rintro e w32 ⟨rfl, hb32⟩))
                  go_wp2_with fail
                  go_roundw
                  case rel => exact ⟨q + 1, by omega, by go_num, HJ31.out.below ((Below.refl _ _).drew.trans hb32), HQ31.out.below ((Below.refl _ _).drew.trans hb32) HQ31.out.lt⟩
                  case measure => simp [intOf]; omega
              | some y =>
                obtain ⟨v, f⟩ := y
                have CG := Lib.hid (get_has_some P L st q v f wr HQ.out hat)
                unfold tupV at CG
                have HVE : Hid (verO L (q : Int) = some v) := Lib.hid (by unfold verO; rw [hat]; rfl)
                obtain ⟨mg, hmg⟩ : ∃ mg, v.d.length = mg := ⟨_, rfl⟩
                have HMG := Lib.hid hmg
                rw [hmg] at CG
                clear hat hmg
                go_wp2_with fail
                refine CG.out.mono ?_
                rintro e w30 ⟨ug, rfl, hog, hb30⟩
                obtain ⟨Ag, cg, rfl, _⟩ := Sl.of_own hog
                have HOG : Hid (w30.ownsRow wr.heap.size 5 1 (.slice Ag mg cg) mg (u8s v.d)) := Lib.hid hog
                clear hog
                obtain ⟨T8, hT8⟩ : ∃ T8, w30.heap.size = T8 := ⟨_, rfl⟩
                obtain ⟨w31, hw31⟩ : ∃ w31, w30.alloc (.cells #[.int .u64 v.r, .int .u64 v.a, .int .u64 v.b, .int .i64 ((v.p : Int) - 1), .int .i64 ((v.s : Int) - 1), .slice Ag mg cg] 33) = w31 := ⟨_, rfl⟩
                have hb31 : Below wr.heap.size wr w31 := by rw [← hw31]; exact bel_trans hb30 (bel_alloc _ _)
                have HJ31 := Lib.hid (HJ.out.below hb31)
                have HQ31 := Lib.hid (HQ.out.below hb31 HQ.out.lt)
                have HB31 : Hid (Blk w31 T8 33 #[.int .u64 v.r, .int .u64 v.a, .int .u64 v.b, .int .i64 ((v.p : Int) - 1), .int .i64 ((v.s : Int) - 1), .slice Ag mg cg]) := Lib.hid (by rw [← hw31, ← hT8]; exact Blk.new w30 _ _)
                have HOG31 : Hid (w31.ownsRow wr.heap.size 5 1 (.slice Ag mg cg) mg (u8s v.d)) := Lib.hid (by rw [← hw31]; exact World.ownsRow.alloc HOG.out _)
                have HW31 := Lib.hid (And.intro hw31 hT8)
                clear hb30 hb31 hw31 hT8
                go_upto_region 31 with fail
                rw [HW31.out.1, HW31.out.2]
                have hql : q < l'.length := by omega
                obtain ⟨⟨eo, eu⟩, hel⟩ : ∃ e, l'[q]? = some e := ⟨_, List.getElem?_eq_getElem hql⟩
                by_cases hsl : (q : Int) = (-1)
                · exact absurd hsl (by omega)
                · have e1 : ((q : Int) == (-1)) = false := beq_eq_false_iff_ne.2 hsl
                  have heo : eo = verO L (q : Int) := by first | (rw [HVV.out q hsl]; exact HJ.out.is q _ hel) | exact HJ.out.is q _ hel
                  rw [HVE.out] at heo
                  subst heo
                  obtain ⟨g, g2, rfl, rfl, hcw, hct, hlw, hlt2⟩ := HJ31.out.at_ hel
                  have c0 := hcw 0 (by omega)
                  have c1 := hcw 1 (by omega)
                  have c2 := hcw 2 (by omega)
                  have c3 := hcw 3 (by omega)
                  have c4 := hcw 4 (by omega)
                  have c5 := hcw 5 (by omega)
                  obtain ⟨Ax, cx, rfl, _⟩ := Sl.of_own (HJ31.out.dat q v eu hel)
                  have HSAME : Hid (∀ w0, Below w31.heap.size w31 w0 → Calls Try.prog 28 #[.agg #[.int .u64 v.r, .int .u64 v.a, .int .u64 v.b, .int .i64 ((v.p : Int) - 1), .int .i64 ((v.s : Int) - 1), .slice Ag mg cg], .agg #[.int .u64 v.r, .int .u64 v.a, .int .u64 v.b, .int .i64 ((v.p : Int) - 1), .int .i64 ((v.s : Int) - 1), .slice Ax mg cx]] w0 fun e w' => e = .returned (.bool true) ∧ Below w0.heap.size w0 w') := Lib.hid (fun w0 hb => samet_yes v.r v.a v.b _ _ Ag Ax mg cg mg cx v.d w0 ((sl_own' HOG31.out).on hb) (by have := HJ31.out.dat q v _ hel; rw [HMG.out] at this; exact (sl_own' this).on hb))
                  rw [HMG.out] at c5
                  rw [hlk] at hlw hlt2
                  simp only [wtC, Nat.add_zero] at c0 c1 c2 c3 c4 c5
                  have x0 := HB31.out.cell 0
                  have x1 := HB31.out.cell 1
                  have x2 := HB31.out.cell 2
                  have x3 := HB31.out.cell 3
                  have x4 := HB31.out.cell 4
                  have x5 := HB31.out.cell 5
                  clear hel hcw
                  have e2 : ((q : Int) != (-1)) = true := by rw [bne, e1]; rfl
                  have e3 : ∀ b : Bool, (b != b) = false := fun b => by cases b <;> rfl
                  go_region_held3 (fun w' => w'.cell? ⟨T8, 0, none⟩ = some (.int .u64 v.r) ∧ w'.cell? ⟨T8, 1, none⟩ = some (.int .u64 v.a) ∧ w'.cell? ⟨T8, 2, none⟩ = some (.int .u64 v.b) ∧ w'.cell? ⟨T8, 3, none⟩ = some (.int .i64 ((v.p : Int) - 1)) ∧ w'.cell? ⟨T8, 4, none⟩ = some (.int .i64 ((v.s : Int) - 1)) ∧ w'.cell? ⟨T8, 5, none⟩ = some (.slice Ag mg cg) ∧ w'.cell? ⟨g, q * 6, none⟩ = some (.int .u64 v.r) ∧ w'.cell? ⟨g, q * 6 + 1, none⟩ = some (.int .u64 v.a) ∧ w'.cell? ⟨g, q * 6 + 2, none⟩ = some (.int .u64 v.b) ∧ w'.cell? ⟨g, q * 6 + 3, none⟩ = some (.int .i64 ((v.p : Int) - 1)) ∧ w'.cell? ⟨g, q * 6 + 4, none⟩ = some (.int .i64 ((v.s : Int) - 1)) ∧ w'.cell? ⟨g, q * 6 + 5, none⟩ = some (.slice Ax mg cx) ∧ w'.cell? ⟨g2, q, none⟩ = some (.bool true)) (first | go_keep | exact ⟨keep_b hb32 x0, keep_b hb32 x1, keep_b hb32 x2, keep_b hb32 x3, keep_b hb32 x4, keep_b hb32 x5, keep_b hb32 c0, keep_b hb32 c1, keep_b hb32 c2, keep_b hb32 c3, keep_b hb32 c4, keep_b hb32 c5, keep_b hb32 hct⟩) (first | (go_at_call 28; refine (HSAME.out _ (by first | exact (Below.refl _ _).drew | exact Below.refl _ _)).mono ?_; rintro e w32 ⟨rfl, hb32⟩))
                  go_wp2_with fail
                  go_roundw
                  case rel => exact ⟨q + 1, by omega, by go_num, HJ31.out.below ((Below.refl _ _).drew.trans hb32), HQ31.out.below ((Below.refl _ _).drew.trans hb32) HQ31.out.lt⟩
                  case measure => simp [intOf]; omega
            · obtain rfl : q = L.length := by omega
              go_wp2_with fail
              go_ret
              exact ⟨rfl, HJ.out.bel⟩
      · have e0 : (o.z % 3 == 0) = false := beq_eq_false_iff_ne.2 h0
        by_cases h1 : o.z % 3 = 1
        · have e1' : (o.z % 3 == 1) = true := by rw [beq_iff_eq]; exact h1
          obtain ⟨y, hy⟩ : ∃ y, stampR L o.i o.b o.p o.s = y := ⟨_, rfl⟩
          obtain ⟨xr, L'⟩ := y
          have CI := Lib.hid (stampP HP20.out o.i o.b o.p o.s)
          have HVV : Hid (∀ i : Nat, (i : Int) ≠ o.i → verO L' (i : Int) = verO L (i : Int)) := Lib.hid (fun i hi => by have := verO_stamp (L := L) (i := i) (j := o.i) (U := 0) (b := o.b) (p := o.p) (s := o.s) hi; rwa [hy] at this)
          rw [hy] at CI
          clear hy
          go_wp2_with fail
          clear o0 o1 t0 t1 t2 t3 t4 t5
          refine CI.out.mono ?_
          rintro e w21 ⟨rfl, hp21, ho21⟩
          have HP21 := Lib.hid hp21
          have HI21 : Hid (SI w w21 P L l' Aw cw At ct) := Lib.hid (HI20.out.only ho21 (by obtain ⟨X, hX, _⟩ := hp21; exact ⟨X, hX⟩))
          clear hp21 ho21 CI
          go_wp2_with fail
          clear e0 e1' h0 h1
          go_loopw [90] (fun i wl => ∃ q : Nat, q ≤ L.length ∧ i = .int .i64 q ∧ SI w wl P L l' Aw cw At ct ∧ Hp wl P L' st) (fun i _ => L.length - (intOf i).toNat)
          case atStart => exact ⟨0, by omega, rfl, HI21.out, HP21.out⟩
          case round =>
            obtain ⟨q, hq, rfl, hsi, hhp⟩ := hrel
            have HJ := Lib.hid hsi
            have HQ := Lib.hid hhp
            clear hsi hhp
            by_cases hlt : q < L.length
            · have hlt' : (q : Int) < L.length := by omega
              cases hat : atL L' (q : Int) with
              | none =>
                have CG := Lib.hid (get_has_none P L' st q wr HQ.out hat)
                unfold zeroT at CG
                have HVE : Hid (verO L' (q : Int) = none) := Lib.hid (by unfold verO; rw [hat]; rfl)
                clear hat
                go_wp2_with fail
                refine CG.out.mono ?_
                rintro e w30 ⟨rfl, hb30⟩
                obtain ⟨T8, hT8⟩ : ∃ T8, w30.heap.size = T8 := ⟨_, rfl⟩
                obtain ⟨w31, hw31⟩ : ∃ w31, w30.alloc (.cells #[.int .u64 0, .int .u64 0, .int .u64 0, .int .i64 0, .int .i64 0, .slice none 0 0] 33) = w31 := ⟨_, rfl⟩
                have hb31 : Below wr.heap.size wr w31 := by rw [← hw31]; exact bel_trans hb30 (bel_alloc _ _)
                have HJ31 := Lib.hid (HJ.out.below hb31)
                have HQ31 := Lib.hid (HQ.out.below hb31 HQ.out.lt)
                have HB31 : Hid (Blk w31 T8 33 #[.int .u64 0, .int .u64 0, .int .u64 0, .int .i64 0, .int .i64 0, .slice none 0 0]) := Lib.hid (by rw [← hw31, ← hT8]; exact Blk.new w30 _ _)
                have HW31 := Lib.hid (And.intro hw31 hT8)
                clear hb30 hb31 hw31 hT8
                go_upto_region 31 with fail
                rw [HW31.out.1, HW31.out.2]
                have hql : q < l'.length := by omega
                obtain ⟨⟨eo, eu⟩, hel⟩ : ∃ e, l'[q]? = some e := ⟨_, List.getElem?_eq_getElem hql⟩
                by_cases hsl : (q : Int) = o.i
                · have e1 : ((q : Int) == o.i) = true := by rw [beq_iff_eq]; exact hsl
                  have e2 : ((q : Int) != o.i) = false := by rw [bne, e1]; rfl
                  have HSL := Lib.hid hsl
                  clear hsl
                  go_wp2_with fail
                  go_quiet (fail)
                  go_wp2_with fail
                  go_roundw
                  case rel => exact ⟨q + 1, by omega, by go_num, HJ31.out.below ⟨rfl, rfl, rfl, Nat.le_refl _, fun _ _ => rfl⟩, HQ31.out.drewN _⟩
                  case measure => simp [intOf] <;> omega
                · have e1 : ((q : Int) == o.i) = false := beq_eq_false_iff_ne.2 hsl
                  have heo : eo = verO L' (q : Int) := by first | (rw [HVV.out q hsl]; exact HJ.out.is q _ hel) | exact HJ.out.is q _ hel
                  rw [HVE.out] at heo
                  subst heo
                  obtain ⟨g, g2, rfl, rfl, hcw, hct, hlw, hlt2⟩ := HJ31.out.at_ hel
                  have c0 := hcw 0 (by omega)
                  have c1 := hcw 1 (by omega)
                  have c2 := hcw 2 (by omega)
                  have c3 := hcw 3 (by omega)
                  have c4 := hcw 4 (by omega)
                  have c5 := hcw 5 (by omega)
                  have HSAME : Hid (∀ w0, Below w31.heap.size w31 w0 → Calls Try.prog 28 #[.agg #[.int .u64 0, .int .u64 0, .int .u64 0, .int .i64 0, .int .i64 0, .slice none 0 0], .agg #[.int .u64 0, .int .u64 0, .int .u64 0, .int .i64 0, .int .i64 0, .slice none 0 0]] w0 fun e w' => e = .returned (.bool true) ∧ Below w0.heap.size w0 w') := Lib.hid (fun w0 hb => by
                    have sn : Sl w0 w0.heap.size 1 none 0 0 (u8s []) := ⟨rfl, Nat.le_refl _, by unfold maxLen; omega, fun _ => rfl, fun h => absurd h (by omega)⟩
                    exact samet_yes 0 0 0 0 0 none none 0 0 0 0 [] w0 sn sn)
                  rw [hlk] at hlw hlt2
                  simp only [wtC, Nat.add_zero] at c0 c1 c2 c3 c4 c5
                  have x0 := HB31.out.cell 0
                  have x1 := HB31.out.cell 1
                  have x2 := HB31.out.cell 2
                  have x3 := HB31.out.cell 3
                  have x4 := HB31.out.cell 4
                  have x5 := HB31.out.cell 5
                  clear hel hcw
                  have e2 : ((q : Int) != o.i) = true := by rw [bne, e1]; rfl
                  have e3 : ∀ b : Bool, (b != b) = false := fun b => by cases b <;> rfl
                  go_region_held3 (fun w' => w'.cell? ⟨T8, 0, none⟩ = some (.int .u64 0) ∧ w'.cell? ⟨T8, 1, none⟩ = some (.int .u64 0) ∧ w'.cell? ⟨T8, 2, none⟩ = some (.int .u64 0) ∧ w'.cell? ⟨T8, 3, none⟩ = some (.int .i64 0) ∧ w'.cell? ⟨T8, 4, none⟩ = some (.int .i64 0) ∧ w'.cell? ⟨T8, 5, none⟩ = some (.slice none 0 0) ∧ w'.cell? ⟨g, q * 6, none⟩ = some (.int .u64 0) ∧ w'.cell? ⟨g, q * 6 + 1, none⟩ = some (.int .u64 0) ∧ w'.cell? ⟨g, q * 6 + 2, none⟩ = some (.int .u64 0) ∧ w'.cell? ⟨g, q * 6 + 3, none⟩ = some (.int .i64 0) ∧ w'.cell? ⟨g, q * 6 + 4, none⟩ = some (.int .i64 0) ∧ w'.cell? ⟨g, q * 6 + 5, none⟩ = some (.slice none 0 0) ∧ w'.cell? ⟨g2, q, none⟩ = some (.bool false)) (first | go_keep | exact ⟨keep_b hb32 x0, keep_b hb32 x1, keep_b hb32 x2, keep_b hb32 x3, keep_b hb32 x4, keep_b hb32 x5, keep_b hb32 c0, keep_b hb32 c1, keep_b hb32 c2, keep_b hb32 c3, keep_b hb32 c4, keep_b hb32 c5, keep_b hb32 hct⟩) (first | (go_at_call 28; refine (HSAME.out _ (by first | exact (Below.refl _ _).drew | exact Below.refl _ _)).mono ?_; rintro e w32 ⟨rfl, hb32⟩))
                  go_wp2_with fail
                  go_roundw
                  case rel => exact ⟨q + 1, by omega, by go_num, HJ31.out.below ((Below.refl _ _).drew.trans hb32), HQ31.out.below ((Below.refl _ _).drew.trans hb32) HQ31.out.lt⟩
                  case measure => simp [intOf]; omega
              | some y =>
                obtain ⟨v, f⟩ := y
                have CG := Lib.hid (get_has_some P L' st q v f wr HQ.out hat)
                unfold tupV at CG
                have HVE : Hid (verO L' (q : Int) = some v) := Lib.hid (by unfold verO; rw [hat]; rfl)
                obtain ⟨mg, hmg⟩ : ∃ mg, v.d.length = mg := ⟨_, rfl⟩
                have HMG := Lib.hid hmg
                rw [hmg] at CG
                clear hat hmg
                go_wp2_with fail
                refine CG.out.mono ?_
                rintro e w30 ⟨ug, rfl, hog, hb30⟩
                obtain ⟨Ag, cg, rfl, _⟩ := Sl.of_own hog
                have HOG : Hid (w30.ownsRow wr.heap.size 5 1 (.slice Ag mg cg) mg (u8s v.d)) := Lib.hid hog
                clear hog
                obtain ⟨T8, hT8⟩ : ∃ T8, w30.heap.size = T8 := ⟨_, rfl⟩
                obtain ⟨w31, hw31⟩ : ∃ w31, w30.alloc (.cells #[.int .u64 v.r, .int .u64 v.a, .int .u64 v.b, .int .i64 ((v.p : Int) - 1), .int .i64 ((v.s : Int) - 1), .slice Ag mg cg] 33) = w31 := ⟨_, rfl⟩
                have hb31 : Below wr.heap.size wr w31 := by rw [← hw31]; exact bel_trans hb30 (bel_alloc _ _)
                have HJ31 := Lib.hid (HJ.out.below hb31)
                have HQ31 := Lib.hid (HQ.out.below hb31 HQ.out.lt)
                have HB31 : Hid (Blk w31 T8 33 #[.int .u64 v.r, .int .u64 v.a, .int .u64 v.b, .int .i64 ((v.p : Int) - 1), .int .i64 ((v.s : Int) - 1), .slice Ag mg cg]) := Lib.hid (by rw [← hw31, ← hT8]; exact Blk.new w30 _ _)
                have HOG31 : Hid (w31.ownsRow wr.heap.size 5 1 (.slice Ag mg cg) mg (u8s v.d)) := Lib.hid (by rw [← hw31]; exact World.ownsRow.alloc HOG.out _)
                have HW31 := Lib.hid (And.intro hw31 hT8)
                clear hb30 hb31 hw31 hT8
                go_upto_region 31 with fail
                rw [HW31.out.1, HW31.out.2]
                have hql : q < l'.length := by omega
                obtain ⟨⟨eo, eu⟩, hel⟩ : ∃ e, l'[q]? = some e := ⟨_, List.getElem?_eq_getElem hql⟩
                by_cases hsl : (q : Int) = o.i
                · have e1 : ((q : Int) == o.i) = true := by rw [beq_iff_eq]; exact hsl
                  have e2 : ((q : Int) != o.i) = false := by rw [bne, e1]; rfl
                  have HSL := Lib.hid hsl
                  clear hsl
                  go_wp2_with fail
                  go_quiet (fail)
                  go_wp2_with fail
                  go_roundw
                  case rel => exact ⟨q + 1, by omega, by go_num, HJ31.out.below ⟨rfl, rfl, rfl, Nat.le_refl _, fun _ _ => rfl⟩, HQ31.out.drewN _⟩
                  case measure => simp [intOf] <;> omega
                · have e1 : ((q : Int) == o.i) = false := beq_eq_false_iff_ne.2 hsl
                  have heo : eo = verO L' (q : Int) := by first | (rw [HVV.out q hsl]; exact HJ.out.is q _ hel) | exact HJ.out.is q _ hel
                  rw [HVE.out] at heo
                  subst heo
                  obtain ⟨g, g2, rfl, rfl, hcw, hct, hlw, hlt2⟩ := HJ31.out.at_ hel
                  have c0 := hcw 0 (by omega)
                  have c1 := hcw 1 (by omega)
                  have c2 := hcw 2 (by omega)
                  have c3 := hcw 3 (by omega)
                  have c4 := hcw 4 (by omega)
                  have c5 := hcw 5 (by omega)
                  obtain ⟨Ax, cx, rfl, _⟩ := Sl.of_own (HJ31.out.dat q v eu hel)
                  have HSAME : Hid (∀ w0, Below w31.heap.size w31 w0 → Calls Try.prog 28 #[.agg #[.int .u64 v.r, .int .u64 v.a, .int .u64 v.b, .int .i64 ((v.p : Int) - 1), .int .i64 ((v.s : Int) - 1), .slice Ag mg cg], .agg #[.int .u64 v.r, .int .u64 v.a, .int .u64 v.b, .int .i64 ((v.p : Int) - 1), .int .i64 ((v.s : Int) - 1), .slice Ax mg cx]] w0 fun e w' => e = .returned (.bool true) ∧ Below w0.heap.size w0 w') := Lib.hid (fun w0 hb => samet_yes v.r v.a v.b _ _ Ag Ax mg cg mg cx v.d w0 ((sl_own' HOG31.out).on hb) (by have := HJ31.out.dat q v _ hel; rw [HMG.out] at this; exact (sl_own' this).on hb))
                  rw [HMG.out] at c5
                  rw [hlk] at hlw hlt2
                  simp only [wtC, Nat.add_zero] at c0 c1 c2 c3 c4 c5
                  have x0 := HB31.out.cell 0
                  have x1 := HB31.out.cell 1
                  have x2 := HB31.out.cell 2
                  have x3 := HB31.out.cell 3
                  have x4 := HB31.out.cell 4
                  have x5 := HB31.out.cell 5
                  clear hel hcw
                  have e2 : ((q : Int) != o.i) = true := by rw [bne, e1]; rfl
                  have e3 : ∀ b : Bool, (b != b) = false := fun b => by cases b <;> rfl
                  go_region_held3 (fun w' => w'.cell? ⟨T8, 0, none⟩ = some (.int .u64 v.r) ∧ w'.cell? ⟨T8, 1, none⟩ = some (.int .u64 v.a) ∧ w'.cell? ⟨T8, 2, none⟩ = some (.int .u64 v.b) ∧ w'.cell? ⟨T8, 3, none⟩ = some (.int .i64 ((v.p : Int) - 1)) ∧ w'.cell? ⟨T8, 4, none⟩ = some (.int .i64 ((v.s : Int) - 1)) ∧ w'.cell? ⟨T8, 5, none⟩ = some (.slice Ag mg cg) ∧ w'.cell? ⟨g, q * 6, none⟩ = some (.int .u64 v.r) ∧ w'.cell? ⟨g, q * 6 + 1, none⟩ = some (.int .u64 v.a) ∧ w'.cell? ⟨g, q * 6 + 2, none⟩ = some (.int .u64 v.b) ∧ w'.cell? ⟨g, q * 6 + 3, none⟩ = some (.int .i64 ((v.p : Int) - 1)) ∧ w'.cell? ⟨g, q * 6 + 4, none⟩ = some (.int .i64 ((v.s : Int) - 1)) ∧ w'.cell? ⟨g, q * 6 + 5, none⟩ = some (.slice Ax mg cx) ∧ w'.cell? ⟨g2, q, none⟩ = some (.bool true)) (first | go_keep | exact ⟨keep_b hb32 x0, keep_b hb32 x1, keep_b hb32 x2, keep_b hb32 x3, keep_b hb32 x4, keep_b hb32 x5, keep_b hb32 c0, keep_b hb32 c1, keep_b hb32 c2, keep_b hb32 c3, keep_b hb32 c4, keep_b hb32 c5, keep_b hb32 hct⟩) (first | (go_at_call 28; refine (HSAME.out _ (by first | exact (Below.refl _ _).drew | exact Below.refl _ _)).mono ?_; rintro e w32 ⟨rfl, hb32⟩))
                  go_wp2_with fail
                  go_roundw
                  case rel => exact ⟨q + 1, by omega, by go_num, HJ31.out.below ((Below.refl _ _).drew.trans hb32), HQ31.out.below ((Below.refl _ _).drew.trans hb32) HQ31.out.lt⟩
                  case measure => simp [intOf]; omega
            · obtain rfl : q = L.length := by omega
              go_wp2_with fail
              go_ret
              exact ⟨rfl, HJ.out.bel⟩
        · have e1' : (o.z % 3 == 1) = false := beq_eq_false_iff_ne.2 h1
          obtain ⟨xr, L', hft⟩ := free_ex L o.i
          have CI := Lib.hid (freeP HP20.out o.i xr L' hft)
          have HVV : Hid (∀ i : Nat, (i : Int) ≠ o.i → verO L' (i : Int) = verO L (i : Int)) := Lib.hid (fun i hi => verO_free hft hi)
          clear hft
          go_wp2_with fail
          clear o0 o1 t0 t1 t2 t3 t4 t5
          refine CI.out.mono ?_
          rintro e w21 ⟨rfl, hp21, ho21⟩
          have HP21 := Lib.hid hp21
          have HI21 : Hid (SI w w21 P L l' Aw cw At ct) := Lib.hid (HI20.out.only ho21 (by obtain ⟨X, hX, _⟩ := hp21; exact ⟨X, hX⟩))
          clear hp21 ho21 CI
          go_wp2_with fail
          clear e0 e1' h0 h1
          go_loopw [90] (fun i wl => ∃ q : Nat, q ≤ L.length ∧ i = .int .i64 q ∧ SI w wl P L l' Aw cw At ct ∧ Hp wl P L' st) (fun i _ => L.length - (intOf i).toNat)
          case atStart => exact ⟨0, by omega, rfl, HI21.out, HP21.out⟩
          case round =>
            obtain ⟨q, hq, rfl, hsi, hhp⟩ := hrel
            have HJ := Lib.hid hsi
            have HQ := Lib.hid hhp
            clear hsi hhp
            by_cases hlt : q < L.length
            · have hlt' : (q : Int) < L.length := by omega
              cases hat : atL L' (q : Int) with
              | none =>
                have CG := Lib.hid (get_has_none P L' st q wr HQ.out hat)
                unfold zeroT at CG
                have HVE : Hid (verO L' (q : Int) = none) := Lib.hid (by unfold verO; rw [hat]; rfl)
                clear hat
                go_wp2_with fail
                refine CG.out.mono ?_
                rintro e w30 ⟨rfl, hb30⟩
                obtain ⟨T8, hT8⟩ : ∃ T8, w30.heap.size = T8 := ⟨_, rfl⟩
                obtain ⟨w31, hw31⟩ : ∃ w31, w30.alloc (.cells #[.int .u64 0, .int .u64 0, .int .u64 0, .int .i64 0, .int .i64 0, .slice none 0 0] 33) = w31 := ⟨_, rfl⟩
                have hb31 : Below wr.heap.size wr w31 := by rw [← hw31]; exact bel_trans hb30 (bel_alloc _ _)
                have HJ31 := Lib.hid (HJ.out.below hb31)
                have HQ31 := Lib.hid (HQ.out.below hb31 HQ.out.lt)
                have HB31 : Hid (Blk w31 T8 33 #[.int .u64 0, .int .u64 0, .int .u64 0, .int .i64 0, .int .i64 0, .slice none 0 0]) := Lib.hid (by rw [← hw31, ← hT8]; exact Blk.new w30 _ _)
                have HW31 := Lib.hid (And.intro hw31 hT8)
                clear hb30 hb31 hw31 hT8
                go_upto_region 31 with fail
                rw [HW31.out.1, HW31.out.2]
                have hql : q < l'.length := by omega
                obtain ⟨⟨eo, eu⟩, hel⟩ : ∃ e, l'[q]? = some e := ⟨_, List.getElem?_eq_getElem hql⟩
                by_cases hsl : (q : Int) = o.i
                · have e1 : ((q : Int) == o.i) = true := by rw [beq_iff_eq]; exact hsl
                  have e2 : ((q : Int) != o.i) = false := by rw [bne, e1]; rfl
                  have HSL := Lib.hid hsl
                  clear hsl
                  go_wp2_with fail
                  go_quiet (fail)
                  go_wp2_with fail
                  go_roundw
                  case rel => exact ⟨q + 1, by omega, by go_num, HJ31.out.below ⟨rfl, rfl, rfl, Nat.le_refl _, fun _ _ => rfl⟩, HQ31.out.drewN _⟩
                  case measure => simp [intOf] <;> omega
                · have e1 : ((q : Int) == o.i) = false := beq_eq_false_iff_ne.2 hsl
                  have heo : eo = verO L' (q : Int) := by first | (rw [HVV.out q hsl]; exact HJ.out.is q _ hel) | exact HJ.out.is q _ hel
                  rw [HVE.out] at heo
                  subst heo
                  obtain ⟨g, g2, rfl, rfl, hcw, hct, hlw, hlt2⟩ := HJ31.out.at_ hel
                  have c0 := hcw 0 (by omega)
                  have c1 := hcw 1 (by omega)
                  have c2 := hcw 2 (by omega)
                  have c3 := hcw 3 (by omega)
                  have c4 := hcw 4 (by omega)
                  have c5 := hcw 5 (by omega)
                  have HSAME : Hid (∀ w0, Below w31.heap.size w31 w0 → Calls Try.prog 28 #[.agg #[.int .u64 0, .int .u64 0, .int .u64 0, .int .i64 0, .int .i64 0, .slice none 0 0], .agg #[.int .u64 0, .int .u64 0, .int .u64 0, .int .i64 0, .int .i64 0, .slice none 0 0]] w0 fun e w' => e = .returned (.bool true) ∧ Below w0.heap.size w0 w') := Lib.hid (fun w0 hb => by
                    have sn : Sl w0 w0.heap.size 1 none 0 0 (u8s []) := ⟨rfl, Nat.le_refl _, by unfold maxLen; omega, fun _ => rfl, fun h => absurd h (by omega)⟩
                    exact samet_yes 0 0 0 0 0 none none 0 0 0 0 [] w0 sn sn)
                  rw [hlk] at hlw hlt2
                  simp only [wtC, Nat.add_zero] at c0 c1 c2 c3 c4 c5
                  have x0 := HB31.out.cell 0
                  have x1 := HB31.out.cell 1
                  have x2 := HB31.out.cell 2
                  have x3 := HB31.out.cell 3
                  have x4 := HB31.out.cell 4
                  have x5 := HB31.out.cell 5
                  clear hel hcw
                  have e2 : ((q : Int) != o.i) = true := by rw [bne, e1]; rfl
                  have e3 : ∀ b : Bool, (b != b) = false := fun b => by cases b <;> rfl
                  go_region_held3 (fun w' => w'.cell? ⟨T8, 0, none⟩ = some (.int .u64 0) ∧ w'.cell? ⟨T8, 1, none⟩ = some (.int .u64 0) ∧ w'.cell? ⟨T8, 2, none⟩ = some (.int .u64 0) ∧ w'.cell? ⟨T8, 3, none⟩ = some (.int .i64 0) ∧ w'.cell? ⟨T8, 4, none⟩ = some (.int .i64 0) ∧ w'.cell? ⟨T8, 5, none⟩ = some (.slice none 0 0) ∧ w'.cell? ⟨g, q * 6, none⟩ = some (.int .u64 0) ∧ w'.cell? ⟨g, q * 6 + 1, none⟩ = some (.int .u64 0) ∧ w'.cell? ⟨g, q * 6 + 2, none⟩ = some (.int .u64 0) ∧ w'.cell? ⟨g, q * 6 + 3, none⟩ = some (.int .i64 0) ∧ w'.cell? ⟨g, q * 6 + 4, none⟩ = some (.int .i64 0) ∧ w'.cell? ⟨g, q * 6 + 5, none⟩ = some (.slice none 0 0) ∧ w'.cell? ⟨g2, q, none⟩ = some (.bool false)) (first | go_keep | exact ⟨keep_b hb32 x0, keep_b hb32 x1, keep_b hb32 x2, keep_b hb32 x3, keep_b hb32 x4, keep_b hb32 x5, keep_b hb32 c0, keep_b hb32 c1, keep_b hb32 c2, keep_b hb32 c3, keep_b hb32 c4, keep_b hb32 c5, keep_b hb32 hct⟩) (first | (go_at_call 28; refine (HSAME.out _ (by first | exact (Below.refl _ _).drew | exact Below.refl _ _)).mono ?_; rintro e w32 ⟨rfl, hb32⟩))
                  go_wp2_with fail
                  go_roundw
                  case rel => exact ⟨q + 1, by omega, by go_num, HJ31.out.below ((Below.refl _ _).drew.trans hb32), HQ31.out.below ((Below.refl _ _).drew.trans hb32) HQ31.out.lt⟩
                  case measure => simp [intOf]; omega
              | some y =>
                obtain ⟨v, f⟩ := y
                have CG := Lib.hid (get_has_some P L' st q v f wr HQ.out hat)
                unfold tupV at CG
                have HVE : Hid (verO L' (q : Int) = some v) := Lib.hid (by unfold verO; rw [hat]; rfl)
                obtain ⟨mg, hmg⟩ : ∃ mg, v.d.length = mg := ⟨_, rfl⟩
                have HMG := Lib.hid hmg
                rw [hmg] at CG
                clear hat hmg
                go_wp2_with fail
                refine CG.out.mono ?_
                rintro e w30 ⟨ug, rfl, hog, hb30⟩
                obtain ⟨Ag, cg, rfl, _⟩ := Sl.of_own hog
                have HOG : Hid (w30.ownsRow wr.heap.size 5 1 (.slice Ag mg cg) mg (u8s v.d)) := Lib.hid hog
                clear hog
                obtain ⟨T8, hT8⟩ : ∃ T8, w30.heap.size = T8 := ⟨_, rfl⟩
                obtain ⟨w31, hw31⟩ : ∃ w31, w30.alloc (.cells #[.int .u64 v.r, .int .u64 v.a, .int .u64 v.b, .int .i64 ((v.p : Int) - 1), .int .i64 ((v.s : Int) - 1), .slice Ag mg cg] 33) = w31 := ⟨_, rfl⟩
                have hb31 : Below wr.heap.size wr w31 := by rw [← hw31]; exact bel_trans hb30 (bel_alloc _ _)
                have HJ31 := Lib.hid (HJ.out.below hb31)
                have HQ31 := Lib.hid (HQ.out.below hb31 HQ.out.lt)
                have HB31 : Hid (Blk w31 T8 33 #[.int .u64 v.r, .int .u64 v.a, .int .u64 v.b, .int .i64 ((v.p : Int) - 1), .int .i64 ((v.s : Int) - 1), .slice Ag mg cg]) := Lib.hid (by rw [← hw31, ← hT8]; exact Blk.new w30 _ _)
                have HOG31 : Hid (w31.ownsRow wr.heap.size 5 1 (.slice Ag mg cg) mg (u8s v.d)) := Lib.hid (by rw [← hw31]; exact World.ownsRow.alloc HOG.out _)
                have HW31 := Lib.hid (And.intro hw31 hT8)
                clear hb30 hb31 hw31 hT8
                go_upto_region 31 with fail
                rw [HW31.out.1, HW31.out.2]
                have hql : q < l'.length := by omega
                obtain ⟨⟨eo, eu⟩, hel⟩ : ∃ e, l'[q]? = some e := ⟨_, List.getElem?_eq_getElem hql⟩
                by_cases hsl : (q : Int) = o.i
                · have e1 : ((q : Int) == o.i) = true := by rw [beq_iff_eq]; exact hsl
                  have e2 : ((q : Int) != o.i) = false := by rw [bne, e1]; rfl
                  have HSL := Lib.hid hsl
                  clear hsl
                  go_wp2_with fail
                  go_quiet (fail)
                  go_wp2_with fail
                  go_roundw
                  case rel => exact ⟨q + 1, by omega, by go_num, HJ31.out.below ⟨rfl, rfl, rfl, Nat.le_refl _, fun _ _ => rfl⟩, HQ31.out.drewN _⟩
                  case measure => simp [intOf] <;> omega
                · have e1 : ((q : Int) == o.i) = false := beq_eq_false_iff_ne.2 hsl
                  have heo : eo = verO L' (q : Int) := by first | (rw [HVV.out q hsl]; exact HJ.out.is q _ hel) | exact HJ.out.is q _ hel
                  rw [HVE.out] at heo
                  subst heo
                  obtain ⟨g, g2, rfl, rfl, hcw, hct, hlw, hlt2⟩ := HJ31.out.at_ hel
                  have c0 := hcw 0 (by omega)
                  have c1 := hcw 1 (by omega)
                  have c2 := hcw 2 (by omega)
                  have c3 := hcw 3 (by omega)
                  have c4 := hcw 4 (by omega)
                  have c5 := hcw 5 (by omega)
                  obtain ⟨Ax, cx, rfl, _⟩ := Sl.of_own (HJ31.out.dat q v eu hel)
                  have HSAME : Hid (∀ w0, Below w31.heap.size w31 w0 → Calls Try.prog 28 #[.agg #[.int .u64 v.r, .int .u64 v.a, .int .u64 v.b, .int .i64 ((v.p : Int) - 1), .int .i64 ((v.s : Int) - 1), .slice Ag mg cg], .agg #[.int .u64 v.r, .int .u64 v.a, .int .u64 v.b, .int .i64 ((v.p : Int) - 1), .int .i64 ((v.s : Int) - 1), .slice Ax mg cx]] w0 fun e w' => e = .returned (.bool true) ∧ Below w0.heap.size w0 w') := Lib.hid (fun w0 hb => samet_yes v.r v.a v.b _ _ Ag Ax mg cg mg cx v.d w0 ((sl_own' HOG31.out).on hb) (by have := HJ31.out.dat q v _ hel; rw [HMG.out] at this; exact (sl_own' this).on hb))
                  rw [HMG.out] at c5
                  rw [hlk] at hlw hlt2
                  simp only [wtC, Nat.add_zero] at c0 c1 c2 c3 c4 c5
                  have x0 := HB31.out.cell 0
                  have x1 := HB31.out.cell 1
                  have x2 := HB31.out.cell 2
                  have x3 := HB31.out.cell 3
                  have x4 := HB31.out.cell 4
                  have x5 := HB31.out.cell 5
                  clear hel hcw
                  have e2 : ((q : Int) != o.i) = true := by rw [bne, e1]; rfl
                  have e3 : ∀ b : Bool, (b != b) = false := fun b => by cases b <;> rfl
                  go_region_held3 (fun w' => w'.cell? ⟨T8, 0, none⟩ = some (.int .u64 v.r) ∧ w'.cell? ⟨T8, 1, none⟩ = some (.int .u64 v.a) ∧ w'.cell? ⟨T8, 2, none⟩ = some (.int .u64 v.b) ∧ w'.cell? ⟨T8, 3, none⟩ = some (.int .i64 ((v.p : Int) - 1)) ∧ w'.cell? ⟨T8, 4, none⟩ = some (.int .i64 ((v.s : Int) - 1)) ∧ w'.cell? ⟨T8, 5, none⟩ = some (.slice Ag mg cg) ∧ w'.cell? ⟨g, q * 6, none⟩ = some (.int .u64 v.r) ∧ w'.cell? ⟨g, q * 6 + 1, none⟩ = some (.int .u64 v.a) ∧ w'.cell? ⟨g, q * 6 + 2, none⟩ = some (.int .u64 v.b) ∧ w'.cell? ⟨g, q * 6 + 3, none⟩ = some (.int .i64 ((v.p : Int) - 1)) ∧ w'.cell? ⟨g, q * 6 + 4, none⟩ = some (.int .i64 ((v.s : Int) - 1)) ∧ w'.cell? ⟨g, q * 6 + 5, none⟩ = some (.slice Ax mg cx) ∧ w'.cell? ⟨g2, q, none⟩ = some (.bool true)) (first | go_keep | exact ⟨keep_b hb32 x0, keep_b hb32 x1, keep_b hb32 x2, keep_b hb32 x3, keep_b hb32 x4, keep_b hb32 x5, keep_b hb32 c0, keep_b hb32 c1, keep_b hb32 c2, keep_b hb32 c3, keep_b hb32 c4, keep_b hb32 c5, keep_b hb32 hct⟩) (first | (go_at_call 28; refine (HSAME.out _ (by first | exact (Below.refl _ _).drew | exact Below.refl _ _)).mono ?_; rintro e w32 ⟨rfl, hb32⟩))
                  go_wp2_with fail
                  go_roundw
                  case rel => exact ⟨q + 1, by omega, by go_num, HJ31.out.below ((Below.refl _ _).drew.trans hb32), HQ31.out.below ((Below.refl _ _).drew.trans hb32) HQ31.out.lt⟩
                  case measure => simp [intOf]; omega
            · obtain rfl : q = L.length := by omega
              go_wp2_with fail
              go_ret
              exact ⟨rfl, HJ.out.bel⟩
end Go.Proofs.Ytbpgjpopmohbmaa.Mem

