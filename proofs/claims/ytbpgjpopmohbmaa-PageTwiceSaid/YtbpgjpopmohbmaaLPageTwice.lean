/- PageTwice: its walk. -/
import Derived.Test.YtbpgjpopmohbmaaBuild
namespace Go.Proofs.Ytbpgjpopmohbmaa.Mem
open Go.RowKit Go.Proofs.Ytbpgjpopmohbmaa.Nums
set_option linter.unusedVariables false
set_option linter.unusedSimpArgs false
set_option maxRecDepth 100000
set_option maxHeartbeats 4000000
/-- the page's bytes and a copy of them, whatever else turns -/
structure TS (w wl : World) (P : Nat) (X : List UInt8) (B2 : Nat) (u : Value) : Prop where
  pg : Pg wl P X
  own : wl.ownsRow B2 5 1 u 512 (u8s X)
  bel : Below w.heap.size w wl
  ge : w.heap.size ≤ P
section
variable {w wl w' : World} {P B2 : Nat} {X : List UInt8} {u : Value}
theorem TS.below (h : TS w wl P X B2 u) (hb : Below wl.heap.size wl w') : TS w w' P X B2 u :=
  ⟨⟨Blk.below h.pg.1 hb (Blk.lt h.pg.1), h.pg.2⟩, own_keep h.own fun k hk => hb.block k (h.own.lt k hk).2, h.bel.trans (hb.mono h.bel.size), h.ge⟩
theorem TS.only (h : TS w wl P X B2 u) {g : Nat} (ho : Only g wl w') (hP : g ≠ P) (hu : u.ownBlock ≠ some g) (hg : w.heap.size ≤ g) : TS w w' P X B2 u :=
  ⟨⟨ho.blk h.pg.1 (Ne.symm hP), h.pg.2⟩, own_keep h.own fun k hk => ho.block k (h.own.lt k hk).2 (fun e => hu (by rw [hk, e])), h.bel.trans (ho.below h.bel.size hg), h.ge⟩
end
/-- a slice of one's own whose bytes are written over one by one -/
structure Xw (w wl : World) (G m k : Nat) (d : List UInt8) : Prop where
  ho : Only G w wl
  cur : ∃ cur, Blk wl G 5 cur ∧ ∀ j y, k ≤ j → j < m → (u8s d)[j]? = some y → cur[j]? = some y
theorem Xw.start {w : World} {B m : Nat} {u : Value} {d : List UInt8} (h : w.ownsRow B 5 1 u m (u8s d)) (hm : 0 < m) : ∃ G c, u = .slice (some ⟨G, 0, none⟩) m c ∧ m ≤ c ∧ u.ownBlock = some G ∧ Xw w w G m 0 d := by
  rcases h.2 with ⟨hv, hm0⟩ | ⟨g, cap, cur, hv, hbg, hg, hnc, hcm, hcs, htake⟩
  · exact absurd hm0 (by omega)
  · refine ⟨g, cap, hv, hnc, by rw [hv]; rfl, Only.refl _ _, cur, hg, fun j y _ hj hy => ?_⟩
    rw [← htake, List.getElem?_take, if_pos (by omega), Array.getElem?_toList] at hy
    exact hy
theorem Xw.step {w wl : World} {G m k : Nat} {d : List UInt8} (h : Xw w wl G m k d) (v : Value) : Xw w (wl.setCell ⟨G, k, none⟩ v) G m (k + 1) d := by
  obtain ⟨cur, hb, hc⟩ := h.cur
  refine ⟨h.ho.set_ _ _, _, Blk.set_ hb k v, fun j y hj hjm hy => ?_⟩
  rw [Array.getElem?_setIfInBounds, if_neg (by omega)]
  exact hc j y (by omega) hjm hy
theorem Xw.at_ {w wl : World} {G m k : Nat} {d : List UInt8} (h : Xw w wl G m k d) (hk : k < m) (hd : d.length = m) : ∃ b : UInt8, wl.cell? ⟨G, k, none⟩ = some (.int .u8 (b.toNat : Int)) ∧ wl.frozen? ⟨G, k, none⟩ = false := by
  obtain ⟨cur, hb, hc⟩ := h.cur
  have hq : d[k]? = some (d[k]'(by omega)) := List.getElem?_eq_getElem _
  exact ⟨_, by rw [Blk.cell hb]; exact hc k _ (Nat.le_refl _) hk (u8s_get hq), hb.frozen k⟩
theorem twice_walk (w : World) (l : List Op5) (A : Option Addr) (n c : Nat) (by_ : Int) (hl : l.length = n) (hs : Sl w w.heap.size 8 A n c (ops5 l)) (hok : ∀ o ∈ l, o.ok w) (hby : 0 ≤ by_ ∧ by_ ≤ 255) :
    Calls Try.prog 8 #[.slice A n c, .int .u8 by_] w fun e w' => e = .returned (.bool true) ∧ Below w.heap.size w w' := by
  have HS := Lib.hid hs
  have HOK := Lib.hid hok
  clear hs hok
  go_enter Try.func8, Try.ntmps8
  go_wp2_with fail
  refine (awake5 _).mono ?_
  rintro e w1 ⟨rfl, hb1⟩
  have HB1 := Lib.hid hb1
  clear hb1
  go_wp2_with fail
  refine (build_any w1 l A n c hl (HS.out.on HB1.out) (fun o ho => (HOK.out o ho).below HB1.out) 30 (by omega)).mono ?_
  rintro e w2 ⟨P, R, L, st, rfl, hd⟩
  obtain ⟨X, hpg, hx⟩ := hd.1
  have HX := Lib.hid hx
  have HPG := Lib.hid hpg
  have HB2 : Hid (Below w.heap.size w w2) := Lib.hid (bel_trans HB1.out hd.2.2.2)
  have HWP : Hid (w.heap.size ≤ P) := Lib.hid (Nat.le_trans HB1.out.size hd.2.2.1)
  clear hd hpg hx
  go_wp2_with fail
  refine (bytes_pg P X w2 HPG.out).mono ?_
  rintro e w3 ⟨u, rfl, hou, hb3⟩
  obtain ⟨Gb, cb, rfl, hcb, hownb, hxw⟩ := Xw.start hou (by omega)
  have HG3 : Hid (w2.heap.size ≤ Gb) := Lib.hid (by have := (hou.lt Gb hownb).1; exact this)
  have HP3 : Hid (Pg w3 P X) := Lib.hid ⟨Blk.below HPG.out.1 hb3 (Blk.lt HPG.out.1), HPG.out.2⟩
  have HB3 := Lib.hid (HB2.out.trans (hb3.mono HB2.out.size))
  have HSB := Lib.hid (sl_own hou)
  have HOB := Lib.hid hou
  clear hb3 hxw hou
  go_wp2_with fail
  refine (copy_any X _ 512 cb w3 HSB.out (by omega)).mono ?_
  rintro e w4 ⟨uw, rfl, how, hb4⟩
  have hTS : TS w w4 P X w3.heap.size uw := ⟨⟨Blk.below HP3.out.1 hb4 (Blk.lt HP3.out.1), HP3.out.2⟩, how, HB3.out.trans (hb4.mono HB3.out.size), HWP.out⟩
  have HTS := Lib.hid hTS
  obtain ⟨Gb', cb', hv', _, hownb', hxw⟩ := Xw.start (own_keep HOB.out fun k hk => hb4.block k (HOB.out.lt k hk).2) (by omega)
  injection hv' with q1 _ q3
  injection q1 with q1
  injection q1 with q1
  subst q1 q3
  have HXW := Lib.hid hxw
  have HGB : Hid (Gb < w3.heap.size) := Lib.hid (HOB.out.lt Gb hownb).2
  have HXL : Hid (X.length = 512) := Lib.hid HP3.out.2
  have HUW : Hid (uw.ownBlock ≠ some Gb) := Lib.hid (fun hk => by have := (how.lt Gb hk).1; have := HGB.out; omega)
  have HGP : Hid (Gb ≠ P) := Lib.hid (by have := Blk.lt HPG.out.1; have := HG3.out; omega)
  obtain ⟨Aw, cw, rfl, _⟩ := Sl.of_own how
  clear hTS how hb4 hxw hownb hownb' HOB HSB
  go_wp2_with fail
  go_loopw [23] (fun i wl => ∃ k : Nat, k ≤ 512 ∧ i = .int .i64 k ∧ Xw w4 wl Gb 512 k X) (fun i _ => 512 - (intOf i).toNat)
  case atStart => exact ⟨0, by omega, rfl, HXW.out⟩
  case round =>
    obtain ⟨k, hk, rfl, hxk⟩ := hrel
    have HXK := Lib.hid hxk
    clear hxk
    by_cases hlt : k < 512
    · have hlt' : (k : Int) < 512 := by omega
      obtain ⟨b, y0, z0⟩ := HXK.out.at_ hlt HXL.out
      have hk0 : (0 : Int) ≤ k := by omega
      go_wp2_with fail
      go_roundw
      case rel => exact ⟨k + 1, by omega, by go_num, HXK.out.step _⟩
      case measure => simp [intOf]; omega
    · obtain rfl : k = 512 := by omega
      have HT5 := Lib.hid (HTS.out.only HXK.out.ho HGP.out HUW.out (Nat.le_trans HB2.out.size HG3.out))
      clear HTS HXK HXW
      have CS := Lib.hid (slots_has P L st wr ⟨X, HT5.out.pg, HX.out⟩)
      go_wp2_with fail
      refine CS.out.mono ?_
      rintro e w5 ⟨rfl, rfl⟩
      clear CS
      have hLs : L.length ≤ 127 := (Hp.small (w := wr) (P := P) ⟨X, HT5.out.pg, HX.out⟩).1
      go_wp2_with fail
      go_loopw [36] (fun i wl => ∃ q : Nat, q ≤ L.length ∧ i = .int .i64 q ∧ TS w wl P X w3.heap.size (.slice Aw 512 cw)) (fun i _ => L.length - (intOf i).toNat)
      case atStart => exact ⟨0, by omega, rfl, HT5.out⟩
      case round =>
        obtain ⟨q, hq, rfl, ht⟩ := hrel
        have HT := Lib.hid ht
        clear ht HT5
        by_cases hlt : q < L.length
        · have hlt' : (q : Int) < L.length := by omega
          cases hat : atL L (q : Int) with
          | none =>
            have CG := Lib.hid (get_has_none P L st q wr ⟨X, HT.out.pg, HX.out⟩ hat)
            unfold zeroT at CG
            clear hat
            go_wp2_with fail
            refine CG.out.mono ?_
            rintro e w7 ⟨rfl, hb7⟩
            have HT7 := Lib.hid ((HT.out.below hb7).below (bel_alloc w7 (.cells #[.int .u64 0, .int .u64 0, .int .u64 0, .int .i64 0, .int .i64 0, .slice none 0 0] 33)))
            clear hb7
            go_wp2_with fail
            go_roundw
            case rel => exact ⟨q + 1, by omega, by go_num, HT7.out⟩
            case measure => simp [intOf]; omega
          | some y =>
            obtain ⟨v, f⟩ := y
            have CG := Lib.hid (get_has_some P L st q v f wr ⟨X, HT.out.pg, HX.out⟩ hat)
            unfold tupV at CG
            obtain ⟨m, hm⟩ : ∃ m, v.d.length = m := ⟨_, rfl⟩
            have hm200 : m ≤ 200 := by
              rw [← hm]
              obtain ⟨j, hj, hjl⟩ := atL_some hat
              exact (HX.out.okv j v f hjl).d
            have HM := Lib.hid hm
            rw [hm] at CG
            clear hat hm
            go_wp2_with fail
            refine CG.out.mono ?_
            rintro e w7 ⟨ut, rfl, hot, hb7⟩
            obtain ⟨At, ct, rfl, _⟩ := Sl.of_own hot
            have hot2 : OwnB w7 wr.heap.size (.slice At m ct) m (u8s v.d) := hot
            obtain ⟨w8, hw8⟩ : ∃ w8, w7.alloc (.cells #[.int .u64 v.r, .int .u64 v.a, .int .u64 v.b, .int .i64 ((v.p : Int) - 1), .int .i64 ((v.s : Int) - 1), .slice At m ct] 33) = w8 := ⟨_, rfl⟩
            obtain ⟨T, hT⟩ : ∃ T, w7.heap.size = T := ⟨_, rfl⟩
            have HT8 : Hid (TS w w8 P X w3.heap.size (.slice Aw 512 cw)) := Lib.hid (by rw [← hw8]; exact (HT.out.below hb7).below (bel_alloc _ _))
            have HBX : Hid (Blk w8 T 33 #[.int .u64 v.r, .int .u64 v.a, .int .u64 v.b, .int .i64 ((v.p : Int) - 1), .int .i64 ((v.s : Int) - 1), .slice At m ct]) := Lib.hid (by rw [← hw8, ← hT]; exact Blk.new w7 _ _)
            have HO8 : Hid (w8.ownsRow wr.heap.size 5 1 (.slice At m ct) m (u8s v.d)) := Lib.hid (by rw [← hw8]; exact World.ownsRow.alloc hot2 _)
            have HFAR : Hid (∀ g, (Value.slice At m ct).ownBlock = some g → g ≠ P ∧ (Value.slice Aw 512 cw).ownBlock ≠ some g ∧ w.heap.size ≤ g) := Lib.hid (fun g hg => by
              have h1 := (hot2.lt g hg).1
              have h2 := Blk.lt HT.out.pg.1
              have h3 := HT.out.bel.size
              exact ⟨by omega, fun hk => by have := (HT.out.own.lt g hk).2; omega, by omega⟩)
            have HW8 := Lib.hid (And.intro hw8 hT)
            clear hot hot2 hb7 hw8 hT
            go_upto_region 15 with fail
            rw [HW8.out.1, HW8.out.2]
            have x5 := HBX.out.cell 5
            by_cases hm0 : m = 0
            · subst hm0
              go_wp2_with fail
              go_loopw [49] (fun i wl => i = .int .i64 0 ∧ wl = w8) (fun _ _ => 0)
              case atStart => exact ⟨rfl, rfl⟩
              case round =>
                obtain ⟨rfl, rfl⟩ := hrel
                go_wp2_with fail
                go_roundw
                case rel => exact ⟨q + 1, by omega, by go_num, HT8.out⟩
                case measure => simp [intOf]; omega
            · obtain ⟨G, ct', hv', hmc, hown, hx8⟩ := Xw.start HO8.out (by omega)
              injection hv' with q1 _ q3
              subst q1 q3
              have HX8 := Lib.hid hx8
              obtain ⟨k1, k2, k3⟩ := HFAR.out G hown
              obtain ⟨curG, hbG, _⟩ := hx8.cur
              have hne : T ≠ G := Blk.ne_ HBX.out hbG (by decide)
              clear hx8 hbG hown
              go_wp2_with fail
              clear x5
              go_loopw [49] (fun i wl => ∃ k : Nat, k ≤ m ∧ i = .int .i64 k ∧ Xw w8 wl G m k v.d) (fun i _ => m - (intOf i).toNat)
              case atStart => exact ⟨0, by omega, rfl, HX8.out⟩
              case round =>
                obtain ⟨k, hk, rfl, hxk⟩ := hrel
                have HXK := Lib.hid hxk
                clear hxk
                by_cases hlk : k < m
                · have hlk' : (k : Int) < m := by omega
                  obtain ⟨b, y0, z0⟩ := HXK.out.at_ hlk HM.out
                  have x5 := (HXK.out.ho.blk HBX.out hne).cell 5
                  have hk0 : (0 : Int) ≤ k := by omega
                  go_wp2_with fail
                  go_roundw
                  case rel => exact ⟨k + 1, by omega, by go_num, HXK.out.step _⟩
                  case measure => simp [intOf]; omega
                · obtain rfl : k = m := by omega
                  go_wp2_with fail
                  go_roundw
                  case rel => exact ⟨q + 1, by omega, by go_num, HT8.out.only HXK.out.ho k1 k2 k3⟩
                  case measure => simp [intOf]; omega
        · obtain rfl : q = L.length := by omega
          go_wp2_with fail
          refine (bytes_pg P X wr HT.out.pg).mono ?_
          rintro e w9 ⟨u9, rfl, ho9, hb9⟩
          obtain ⟨A9, c9, rfl, _⟩ := Sl.of_own ho9
          have HT9 := Lib.hid (HT.out.below hb9)
          have CS := Lib.hid (same_any X X A9 512 c9 Aw 512 cw w9 (sl_own ho9) (sl_own HT9.out.own))
          rw [decide_eq_true rfl] at CS
          clear ho9 hb9
          go_wp2_with fail
          refine CS.out.mono ?_
          rintro e w10 ⟨rfl, rfl⟩
          go_wp2_with fail
          go_ret
          exact ⟨rfl, HT9.out.bel⟩
end Go.Proofs.Ytbpgjpopmohbmaa.Mem
