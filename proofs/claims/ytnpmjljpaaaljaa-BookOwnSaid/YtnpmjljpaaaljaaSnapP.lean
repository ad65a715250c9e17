/- lapidarylaw10.play. -/
import Derived.Test.YtnpmjljpaaaljaaSnapN
namespace Go.Proofs.Ytnpmjljpaaaljaa.Clg
open Go.ChangeMaps Go.MapKept Go.RowKit Go.Proofs.Ytnpmjljpaaaljaa.Nums Go.Proofs.Ytnpmjljpaaaljaa.Mem
set_option linter.unusedVariables false
set_option linter.unusedSimpArgs false
set_option maxRecDepth 100000
def PlayB (w : World) (e : Ending) (w' : World) : Prop := ∃ K PB P Q S l A c B d, e = .returned (.tuple #[.pointer (some ⟨PB, 0, none⟩), .bool true]) ∧ PS w w' K PB P Q S l A c B d ∧ l.length ≤ 40 ∧ ∀ s ∈ l, s.own < 40
def PlayP (w : World) (e : Ending) (w' : World) : Prop := ∃ K PB P Q S l A c B d, e = .returned (.tuple #[.pointer (some ⟨PB, 0, none⟩), .bool true]) ∧ PS w w' K PB P Q S l A c B d ∧ l.length ≤ 40
theorem AL.grow {w0 w w' : World} {K : Nat → Prop} {P f : Nat} {S : List Nat} (h : AL w0 w K P f S) (ht : Turn K w w') (hK : ∀ g, K g → w0.heap.size ≤ g) : AL w0 w' (New K w w') P f S := by
  obtain ⟨F, h1, h2, h3, h4⟩ := h
  refine ⟨F, h1.turn ht (fun g hF hg => (h3 g hg).1 hF), h2, fun g hg => ?_, h4.trans (ht.below h4.size hK)⟩
  rcases hg with hg | hg
  · exact ⟨(h3 g hg).1, Nat.lt_of_lt_of_le (h3 g hg).2 ht.size⟩
  · exact ⟨fun hF => by have := h1.lt g hF; omega, hg.2⟩
theorem al_newK (w : World) (f : Nat) (h1 : 1 ≤ f) (h2 : f ≤ 1099511627776) {w0 : World} (hb : Below w0.heap.size w0 w) (K : Nat → Prop) (hK : ∀ g, K g → g < w.heap.size) : Calls Try.prog 30 #[.int .u64 (f : Int)] w fun e w' => ∃ P, e = .returned (.tuple #[.pointer (some ⟨P, 0, none⟩), .int .i64 0]) ∧ AL w0 w' K P f [] ∧ Below w.heap.size w w' := by
  refine (new_any w f h1 h2).mono ?_
  rintro e w' ⟨F, P, rfl, hl, hf, hb'⟩
  exact ⟨P, rfl, ⟨F, hl, fun g hg => Nat.le_trans hb.size (hf g hg), fun g hg => ⟨fun hF => by have := hf g hF; have := hK g hg; omega, Nat.lt_of_lt_of_le (hK g hg) hb'.size⟩, hb.trans (hb'.mono hb.size)⟩, hb'⟩
theorem AL.set_ {w0 w : World} {K : Nat → Prop} {P f g i : Nat} {S : List Nat} (h : AL w0 w K P f S) (hg : K g) (hg0 : w0.heap.size ≤ g) (u : Value) : AL w0 (w.setCell ⟨g, i, none⟩ u) K P f S := by
  obtain ⟨F, h1, h2, h3, h4⟩ := h
  have hT : Turn (fun x => x = g) w (w.setCell ⟨g, i, none⟩ u) := (Turn.refl (fun x => x = g) w).set_ (p := ⟨g, i, none⟩) (.inl rfl) _
  exact ⟨F, h1.turn hT (fun x hF e => (h3 g hg).1 (e ▸ hF)), h2, fun x hx => ⟨(h3 x hx).1, Nat.lt_of_lt_of_le (h3 x hx).2 hT.size⟩, h4.trans (hT.below h4.size (fun x e => by rw [e]; exact hg0))⟩
theorem AP.set_ {w0 w : World} {K : Nat → Prop} {P Q f g i : Nat} {S T : List Nat} (h : AP w0 w K P Q f S T) (hg : K g) (hg0 : w0.heap.size ≤ g) (u : Value) : AP w0 (w.setCell ⟨g, i, none⟩ u) K P Q f S T := by
  obtain ⟨F, G, h1, h2, h3, h4, h5, h6, h7⟩ := h
  have hT : Turn (fun x => x = g) w (w.setCell ⟨g, i, none⟩ u) := (Turn.refl (fun x => x = g) w).set_ (p := ⟨g, i, none⟩) (.inl rfl) _
  exact ⟨F, G, h1.turn hT (fun x hF e => (h6 g hg).1 (e ▸ hF)), h2.turn hT (fun x hF e => (h6 g hg).2.1 (e ▸ hF)), h3, h4, h5, fun x hx => ⟨(h6 x hx).1, (h6 x hx).2.1, Nat.lt_of_lt_of_le (h6 x hx).2.2 hT.size⟩, h7.trans (hT.below h7.size (fun x e => by rw [e]; exact hg0))⟩
theorem step_store_row {P : Program} {ops : Array Oper} {o : Oper} {a : Act} {w : World} {K : Act → World → Prop} {Q : Exit → Act → World → Prop} {E : Prop} (hgd : o.guard = none) (ty : TypeId) (x y : Operand) (ho : o.op = .store ty x y)
    (g : Nat) (cells : Array Value) (hx : a.eval x = .pointer (some ⟨g, 0, none⟩)) (hy : a.eval y = .agg cells) (t : TypeId) (old : Array Value) (hg : w.heap[g]? = some (.cells old t (0, 0))) (hi : (P.info? ty).map (·.size) = some cells.size)
    (hold : old.size = cells.size) (h1 : cells.all (·.oneCell') = true) (hK : K (a.put o.dst undef) (w.setRow g cells)) : if Region.wanted o (yielded ops a.tmps) = true then Oper.wp P o a w K Q else E := by
  rw [if_pos (by simp [Region.wanted, hgd])]
  exact wp_store_row ty x y ho g cells hx hy t old hg hi hold h1 hK
theorem MM.bel {U w : World} {y xm xx rn : Nat} {RX : List Nat} {b1 b2 b3 b4 b5 b6 : Bool} {v1 v2 v3 v4 : Value} (h : MM U w y xm xx rn RX b1 b2 b3 b4 b5 b6 v1 v2 v3 v4) : Below U.heap.size U w := by
  obtain ⟨A, c, B, e, g, g', h⟩ := h
  exact h.bel
set_option maxHeartbeats 8000000 in
theorem play_anyB (w : World) (l : List O10) (A : Option Addr) (n c : Nat) (most : Nat) (hm : most ≤ 40) (hl : l.length = n) (hs : Sl w w.heap.size 2 A n c (o10_s l)) (hok : ∀ o ∈ l, o.ok) :
    Calls Try.prog 13 #[.slice A n c, .int .i64 (most : Int)] w (PlayB w) := by
  have HS := Lib.hid hs
  have HL := Lib.hid hl
  have HOK := Lib.hid hok
  have hcap := hs.cap
  have hle := hs.le
  unfold maxLen at hcap
  have hm' : (most : Int) ≤ 40 := by omega
  obtain ⟨W1, hW1⟩ : ∃ W1, W1 = w.alloc (.cells #[.pointer none, .pointer none, .slice none 0 0, .slice none 0 0] 35) := ⟨_, rfl⟩
  have HW1 := Lib.hid hW1
  have HB1 : Hid (Below w.heap.size w W1) := Lib.hid (by rw [hW1]; exact bel_alloc _ _)
  have HK1 : Hid (Blk W1 w.heap.size 35 #[.pointer none, .pointer none, .slice none 0 0, .slice none 0 0]) := Lib.hid (by rw [hW1]; exact Blk.new _ _ _)
  have CN := Lib.hid (al_newK W1 1 (by omega) (by omega) HB1.out (fun g => g = w.heap.size) (fun g hg => by rw [hg]; exact HK1.out.lt))
  clear hs hl hok hW1
  go_enter Try.func13, Try.ntmps13
  go_wp2_with fail
  rw [← HW1.out]
  refine CN.out.mono ?_
  rintro e w2 ⟨P, rfl, ha2, hb2⟩
  have hk2 := HK1.out.below hb2 HK1.out.lt
  have c0 := hk2.cell 0
  have f0 := hk2.frozen 0
  have HA3 : Hid (AL w (w2.setCell ⟨w.heap.size, 0, none⟩ (.pointer (some ⟨P, 0, none⟩))) (fun g => g = w.heap.size) P 1 []) := Lib.hid (ha2.set_ rfl (Nat.le_refl _) _)
  have HK3 : Hid (Blk (w2.setCell ⟨w.heap.size, 0, none⟩ (.pointer (some ⟨P, 0, none⟩))) w.heap.size 35 #[.pointer (some ⟨P, 0, none⟩), .pointer none, .slice none 0 0, .slice none 0 0]) := Lib.hid (hk2.set_ 0 _)
  clear ha2 hb2 hk2
  go_wp2_with fail
  generalize w2.setCell ⟨w.heap.size, 0, none⟩ (.pointer (some ⟨P, 0, none⟩)) = W3 at *
  refine (ap_new HA3.out (by omega) (by omega)).mono ?_
  rintro e w4 ⟨rfl, ha4, hb4⟩
  have hk4 := HK3.out.below hb4 HK3.out.lt
  have c1 := hk4.cell 1
  have f1 := hk4.frozen 1
  have HP5 : Hid (PS w (w4.setCell ⟨w.heap.size, 1, none⟩ (.pointer (some ⟨W3.heap.size, 0, none⟩))) (fun g => g = w.heap.size) w.heap.size P W3.heap.size [] [] none 0 none 0) := Lib.hid
    ⟨ha4.set_ rfl (Nat.le_refl _) _, (fun s hs => by cases hs), (fun g hg => by rw [hg]; exact Nat.le_refl _), rfl, hk4.set_ 1 _, World.ownsRow_nil _ _ _ _, World.ownsRow_nil _ _ _ _, (fun g hg => by simp [Value.ownBlock] at hg), (fun g hg => by simp [Value.ownBlock] at hg), fun s hs => by cases hs⟩
  clear ha4 hb4 hk4 HA3 HK3
  generalize W3.heap.size = Q at *
  go_wp2_with fail
  generalize w4.setCell ⟨w.heap.size, 1, none⟩ (.pointer (some ⟨Q, 0, none⟩)) = W5 at *
  clear HB1 HK1 CN c0 f0 c1 f1
  clear HW1
  generalize hPB : w.heap.size = PB at HP5 ⊢
  clear hPB
  go_loopw [30] (fun i wr => ∃ k : Nat, k ≤ n ∧ i = .int .i64 k ∧ ∃ K S l A c B d, PS w wr K PB P Q S l A c B d ∧ l.length ≤ k ∧ l.length ≤ 40 ∧ Apart PB l (.slice A l.length c) (.slice B l.length d) ∧ ∀ s ∈ l, s.own < 40) (fun i _ => n - (intOf i).toNat)
  case atStart => exact ⟨0, by omega, rfl, _, [], [], none, 0, none, 0, HP5.out, by simp, by simp, apart_nil _ _ _, fun s hs => by cases hs⟩
  case round =>
    obtain ⟨k, hk, rfl, K, S, sl, A1, c1, B1, d1, hps, hlk, hl40, hap, hown⟩ := hrel
    have HPS := Lib.hid hps
    have HAP := Lib.hid hap
    have HOWN := Lib.hid hown
    clear hps HP5 hap hown
    by_cases hlt : k < n
    · obtain ⟨o, ho⟩ : ∃ o, l[k]? = some o := ⟨_, List.getElem?_eq_getElem (by rw [HL.out]; exact hlt)⟩
      obtain ⟨ad, rfl, x0, x1⟩ := o10_cells HS.out HPS.out.ap.bel ho HL.out
      obtain ⟨hd, hx⟩ := HOK.out o (List.mem_of_getElem? ho)
      obtain ⟨d, x⟩ := o
      have hd : d < 256 := hd
      have hx : x < 18446744073709551616 := hx
      have hlt' : (k : Int) < n := by omega
      have HP3 : Hid (PS w (wr.alloc (.cells #[.int .u8 (d : Int), .int .u64 (x : Int)] 62)) K PB P Q S sl A1 c1 B1 d1) := Lib.hid (HPS.out.below (bel_alloc wr _))
      have p0 := HP3.out.pb.cell 0
      have p1 := HP3.out.pb.cell 1
      clear ho
      by_cases hmk : most ≤ k
      · have hmk' : (most : Int) ≤ k := by omega
        clear p0 p1
        go_wp2_with fail
        go_ret2
        exact ⟨K, PB, P, Q, S, sl, A1, c1, B1, d1, rfl, HP3.out, hl40, HOWN.out⟩
      · have hmk' : ¬ (most : Int) ≤ k := by omega
        have hk40 : k < 40 := by omega
        have hl39 : sl.length < 40 := by omega
        obtain ⟨q, hq⟩ : ∃ q : Nat, d % 7 = q := ⟨_, rfl⟩
        have hq' : (d : Int) % 7 = q := by omega
        have hd0 : (d : Int) < 256 := by omega
        have hx0 : (x : Int) < 18446744073709551616 := by omega
        obtain ⟨y, hy⟩ : ∃ y : Nat, x % 40 = y := ⟨_, rfl⟩
        have hy' : (x : Int) % 40 = y := by omega
        have hy40 : y < 40 := by omega
        have hq7 : q < 7 := by omega
        clear hq hy
        rcases (show (q = 2 ∨ q = 3) ∨ q = 4 ∨ (q = 5 ∨ q = 6) ∨ (q = 0 ∨ q = 1) by omega) with h | rfl | h | h
        · have HE := Lib.hid (show Later S (endS 1 S y 2) from later_end S y 2)
          rcases h with rfl | rfl
          all_goals
            go_wp2_with fail
            refine (ap_commit HP3.out.ap y).mono ?_
            rintro e w6 ⟨rfl, ha6, hk6⟩
            have p0' := (hk6.blk HP3.out.pb HP3.out.kPB).cell 0
            have p1' := (hk6.blk HP3.out.pb HP3.out.kPB).cell 1
            have HA6 := Lib.hid ha6
            have HK6 := Lib.hid hk6
            clear ha6 hk6
            go_wp2_with fail
            refine (ap_rend HA6.out (x := y) (by omega) 2).mono ?_
            rintro e w7 ⟨rfl, ha7, hk7⟩
            have HP7 : Hid (PS w w7 K PB P Q (endS 1 S y 2) sl A1 c1 B1 d1) := Lib.hid (HP3.out.goes ha7 (fun g hg => (hk7 g hg).trans (HK6.out g hg)) (st_ok_end HP3.out.ok 1 y (by omega)) HE.out)
            clear ha7 hk7 p0 p1 p0' p1'
            go_wp2_with fail
            go_roundw
            case rel => exact ⟨k + 1, by omega, by go_num, K, _, sl, A1, c1, B1, d1, HP7.out, by omega, by omega, HAP.out, HOWN.out⟩
            case measure => simp [intOf]; omega
        · have HE := Lib.hid (show Later S (endS 1 S y 3) from later_end S y 3)
          go_wp2_with fail
          refine (ap_abort HP3.out.ap (x := y) (by omega)).mono ?_
          rintro e w6 ⟨rfl, ha6, hk6⟩
          have p0' := (hk6.blk HP3.out.pb HP3.out.kPB).cell 0
          have p1' := (hk6.blk HP3.out.pb HP3.out.kPB).cell 1
          have HA6 := Lib.hid ha6
          have HK6 := Lib.hid hk6
          clear ha6 hk6
          go_wp2_with fail
          refine (ap_rend HA6.out (x := y) (by omega) 3).mono ?_
          rintro e w7 ⟨rfl, ha7, hk7⟩
          have HP7 : Hid (PS w w7 K PB P Q (endS 1 S y 3) sl A1 c1 B1 d1) := Lib.hid (HP3.out.goes ha7 (fun g hg => (hk7 g hg).trans (HK6.out g hg)) (st_ok_end HP3.out.ok 1 y (by omega)) HE.out)
          clear ha7 hk7 p0 p1 p0' p1'
          go_wp2_with fail
          go_roundw
          case rel => exact ⟨k + 1, by omega, by go_num, K, _, sl, A1, c1, B1, d1, HP7.out, by omega, by omega, HAP.out, HOWN.out⟩
          case measure => simp [intOf]; omega
        · rcases h with rfl | rfl
          all_goals
            have CT := Lib.hid (fun W (h : PS w W K PB P Q S sl A1 c1 B1 d1) => by obtain ⟨F, h⟩ := h.ap.al; exact take_any h y)
            have CR := Lib.hid (fun W (h : PS w W K PB P Q S sl A1 c1 B1 d1) => by obtain ⟨F, h⟩ := h.ap.rl; exact rtake_any h y)
            have HRS : Hid ((runX 1 S y).Pairwise (· < ·) ∧ ∀ z ∈ runX 1 S y, z < 1 + S.length) := Lib.hid ⟨(runs_sorted S 1).filter _, fun z hz => (runs_ge (List.mem_filter.1 hz).1).2⟩
            obtain ⟨xm, hxm⟩ : ∃ z, xminOf 1 S y = z := ⟨_, rfl⟩
            obtain ⟨xx, hxx⟩ : ∃ z, 1 + S.length = z := ⟨_, rfl⟩
            obtain ⟨rn, hrn⟩ : ∃ z, (runX 1 S y).length = z := ⟨_, rfl⟩
            have CT : Hid (∀ W (h : PS w W K PB P Q S sl A1 c1 B1 d1), Calls Try.prog 29 #[.pointer (some ⟨P, 0, none⟩), .int .u64 (y : Int)] W fun e w' => ∃ A c, e = .returned (.agg #[.int .u64 (y : Int), .int .u64 (xm : Int), .int .u64 (xx : Int), .slice A rn c]) ∧ SlU w' A c (runX 1 S y) ∧ (∀ ad, 0 < (runX 1 S y).length → A = some ad → W.heap.size ≤ ad.block) ∧ Below W.heap.size W w') := Lib.hid (fun W h => (CT.out W h).mono (by rw [← hxm, ← hxx, ← hrn]; rintro e w' ⟨A, c, rfl, h1, h2, h3⟩; exact ⟨A, c, rfl, h1, h2, h3⟩))
            have CR : Hid (∀ W (h : PS w W K PB P Q S sl A1 c1 B1 d1), Calls Try.prog 46 #[.pointer (some ⟨Q, 0, none⟩), .int .u64 (y : Int)] W fun e w' => ∃ A c, e = .returned (.agg #[.int .u64 (y : Int), .int .u64 (xx : Int), .slice A rn c]) ∧ SlU w' A c (runX 1 S y) ∧ (∀ ad, 0 < (runX 1 S y).length → A = some ad → W.heap.size ≤ ad.block) ∧ Below W.heap.size W w') := Lib.hid (fun W h => (CR.out W h).mono (by rw [← hxx, ← hrn]; rintro e w' ⟨A, c, rfl, h1, h2, h3⟩; exact ⟨A, c, rfl, h1, h2, h3⟩))
            have HXM : Hid ((runX 1 S y).headD xx = xm) := Lib.hid (by rw [← hxm, ← hxx]; rfl)
            have HXM' := Lib.hid hxm
            have HXX := Lib.hid hxx
            have HRN := Lib.hid hrn
            clear hxm hxx hrn
            obtain ⟨n1, hn1⟩ : ∃ z, sl.length = z := ⟨_, rfl⟩
            have HN1 := Lib.hid hn1
            have hn40 : n1 < 40 := by omega
            clear hn1
            go_wp2_with fail
            have HP4 := HP3
            generalize (wr.alloc (.cells #[.int .u8 (d : Int), .int .u64 (x : Int)] 62)) = U at HP4 ⊢
            have HAP1 := HAP
            rw [HN1.out] at HAP1
            have HBW : Hid (w.heap.size ≤ U.heap.size) := Lib.hid HP4.out.ap.bel.size
            clear hq' hd0 hx0 hy' hm' hmk' hd hx hcap hle p0 p1 x0 x1 hq7 hlt' HP3 HPS
            refine Reg.wp_region_inv_lit (by kernel_rfl) (by kernel_rfl) (fun D vals W => Reg.Fx (fun k9 => ([some (.pointer (some ⟨PB, 0, none⟩)), some (.pointer (some ⟨PB, 0, none⟩)), some (.pointer (some ⟨PB, 0, none⟩)), some (.pointer (some ⟨P, 0, none⟩)), some (.int .u64 (y : Int)), none, some (.pointer (some ⟨PB, 0, none⟩)), some (.pointer (some ⟨PB, 0, none⟩)), some (.pointer (some ⟨PB, 1, none⟩)), some (.pointer (some ⟨Q, 0, none⟩)), some (.int .u64 (y : Int)), none, none, none, none, none] : List (Option Value)).getD k9 none) D vals ∧ MM U W y xm xx rn (runX 1 S y) (D 5) (D 11) (D 12) (D 13) (D 14) (D 15) (vals 5) (vals 11) (vals 12) (vals 13)) ⟨Reg.Fx.init _ _, mm_new _ _ _ _ _ _ _ _ _ _⟩ (fun Q' => ?_) ?_
            · refine Reg.Steps.cons (k' := 1) rfl ?_ ?_
              · intro D vals a W hR hd hde ev K' hK
                have x6 : a.tmps[6]? = some (.pointer (some ⟨PB, 0, none⟩)) := (ev.out 6 (by kernel_rfl)).trans rfl
                clear hde ev hd
                go_simp
                exact hK _ _ ⟨hR.1.step (.inr rfl), hR.2⟩
              refine Reg.Steps.cons (k' := 2) rfl ?_ ?_
              · intro D vals a W hR hd hde ev K' hK
                have d0 := Reg.dep hde 0 rfl
                have x86 : a.tmps[86]? = some (.pointer (some ⟨PB, 0, none⟩)) := ev.got hR.1 0 86 _ rfl rfl d0
                clear hde ev hd
                go_simp
                exact hK _ _ ⟨hR.1.step (.inr rfl), hR.2⟩
              refine Reg.Steps.cons (k' := 3) rfl ?_ ?_
              · intro D vals a W hR hd hde ev K' hK
                have d1 := Reg.dep hde 1 rfl
                have x87 : a.tmps[87]? = some (.pointer (some ⟨PB, 0, none⟩)) := ev.got hR.1 1 87 _ rfl rfl d1
                clear hde ev hd
                go_simp
                exact hK _ _ ⟨hR.1.step (.inr rfl), hR.2⟩
              refine Reg.Steps.cons (k' := 4) rfl ?_ ?_
              · intro D vals a W hR hd hde ev K' hK
                have d2 := Reg.dep hde 2 rfl
                have x88 : a.tmps[88]? = some (.pointer (some ⟨PB, 0, none⟩)) := ev.got hR.1 2 88 _ rfl rfl d2
                have hps := HP4.out.below hR.2.bel
                have q0 := hps.pb.cell 0
                clear hps
                clear hde ev hd
                go_simp
                exact hK _ _ ⟨hR.1.step (.inr rfl), hR.2⟩
              refine Reg.Steps.cons (k' := 5) rfl ?_ ?_
              · intro D vals a W hR hd hde ev K' hK
                have x9 : a.tmps[9]? = some (.int .u64 (y : Int)) := (ev.out 9 (by kernel_rfl)).trans rfl
                clear hde ev hd
                go_simp
                exact hK _ _ ⟨hR.1.step (.inr rfl), hR.2⟩
              refine Reg.Steps.cons (k' := 6) rfl ?_ ?_
              · intro D vals a W hR hd hde ev K' hK
                have d3 := Reg.dep hde 3 rfl
                have x89 : a.tmps[89]? = some (.pointer (some ⟨P, 0, none⟩)) := ev.got hR.1 3 89 _ rfl rfl d3
                have d4 := Reg.dep hde 4 rfl
                have x90 : a.tmps[90]? = some (.int .u64 (y : Int)) := ev.got hR.1 4 90 _ rfl rfl d4
                have CC := Lib.hid (CT.out W (HP4.out.below hR.2.bel))
                clear hde ev
                go_simp
                refine CC.out.mono ?_
                rintro e W1 ⟨A7, c7, rfl, h1, h2, h3⟩
                exact hK _ _ ⟨hR.1.step (.inl rfl), mm_c1 (by have h := hR.2; rw [hd] at h; exact h) h1 h2 h3⟩
              refine Reg.Steps.cons (k' := 7) rfl ?_ ?_
              · intro D vals a W hR hd hde ev K' hK
                have x6 : a.tmps[6]? = some (.pointer (some ⟨PB, 0, none⟩)) := (ev.out 6 (by kernel_rfl)).trans rfl
                clear hde ev hd
                go_simp
                exact hK _ _ ⟨hR.1.step (.inr rfl), hR.2⟩
              refine Reg.Steps.cons (k' := 8) rfl ?_ ?_
              · intro D vals a W hR hd hde ev K' hK
                have d6 := Reg.dep hde 6 rfl
                have x92 : a.tmps[92]? = some (.pointer (some ⟨PB, 0, none⟩)) := ev.got hR.1 6 92 _ rfl rfl d6
                clear hde ev hd
                go_simp
                exact hK _ _ ⟨hR.1.step (.inr rfl), hR.2⟩
              refine Reg.Steps.cons (k' := 9) rfl ?_ ?_
              · intro D vals a W hR hd hde ev K' hK
                have d7 := Reg.dep hde 7 rfl
                have x93 : a.tmps[93]? = some (.pointer (some ⟨PB, 0, none⟩)) := ev.got hR.1 7 93 _ rfl rfl d7
                clear hde ev hd
                go_simp
                exact hK _ _ ⟨hR.1.step (.inr rfl), hR.2⟩
              refine Reg.Steps.cons (k' := 10) rfl ?_ ?_
              · intro D vals a W hR hd hde ev K' hK
                have d8 := Reg.dep hde 8 rfl
                have x94 : a.tmps[94]? = some (.pointer (some ⟨PB, 1, none⟩)) := ev.got hR.1 8 94 _ rfl rfl d8
                have hps := HP4.out.below hR.2.bel
                have q1 := hps.pb.cell 1
                clear hps
                clear hde ev hd
                go_simp
                exact hK _ _ ⟨hR.1.step (.inr rfl), hR.2⟩
              refine Reg.Steps.cons (k' := 11) rfl ?_ ?_
              · intro D vals a W hR hd hde ev K' hK
                have x9 : a.tmps[9]? = some (.int .u64 (y : Int)) := (ev.out 9 (by kernel_rfl)).trans rfl
                clear hde ev hd
                go_simp
                exact hK _ _ ⟨hR.1.step (.inr rfl), hR.2⟩
              refine Reg.Steps.cons (k' := 12) rfl ?_ ?_
              · intro D vals a W hR hd hde ev K' hK
                have d9 := Reg.dep hde 9 rfl
                have x95 : a.tmps[95]? = some (.pointer (some ⟨Q, 0, none⟩)) := ev.got hR.1 9 95 _ rfl rfl d9
                have d10 := Reg.dep hde 10 rfl
                have x96 : a.tmps[96]? = some (.int .u64 (y : Int)) := ev.got hR.1 10 96 _ rfl rfl d10
                have CC := Lib.hid (CR.out W (HP4.out.below hR.2.bel))
                clear hde ev
                go_simp
                refine CC.out.mono ?_
                rintro e W1 ⟨A7, c7, rfl, h1, h2, h3⟩
                exact hK _ _ ⟨hR.1.step (.inl rfl), mm_c2 (by have h := hR.2; rw [hd] at h; exact h) h1 h2 h3⟩
              refine Reg.Steps.cons (k' := 13) rfl ?_ ?_
              · intro D vals a W hR hd hde ev K' hK
                clear hde ev
                go_simp
                exact hK _ _ ⟨hR.1.step (.inl rfl), mm_a1 (by have h := hR.2; rw [hd] at h; exact h)⟩
              refine Reg.Steps.cons (k' := 14) rfl ?_ ?_
              · intro D vals a W hR hd hde ev K' hK
                clear hde ev
                go_simp
                exact hK _ _ ⟨hR.1.step (.inl rfl), mm_a2 (by have h := hR.2; rw [hd] at h; exact h)⟩
              refine Reg.Steps.cons (k' := 15) rfl ?_ ?_
              · intro D vals a W hR hd hde ev K' hK
                have dA := Reg.dep hde 5 rfl
                have dB := Reg.dep hde 12 rfl
                have h := hR.2
                rw [hd, dA, dB] at h
                obtain ⟨A7, c7, g7, e1, e2, hb, hm⟩ := mm_s1 h
                have xA : a.tmps[91]? = some _ := ev.done 5 91 rfl dA
                have xB : a.tmps[10]? = some _ := ev.done 12 10 rfl dB
                rw [e1] at xA
                rw [e2] at xB
                refine step_store_row rfl _ _ _ rfl g7 _ (Reg.eval_of xB) (Reg.eval_of xA) 48 _ hb (by kernel_rfl) rfl (by first | exact sS_one _ _ _ _ _ _ | exact sR_one _ _ _ _ _) (hK undef _ ⟨hR.1.step (.inl rfl), ?_⟩)
                have e3 : Reg.upd D 14 5 = true := dA
                have e4 : Reg.upd D 14 12 = true := dB
                show MM U _ y xm xx rn (runX 1 S y) (D 5) (D 11) (D 12) (D 13) true (D 15) (vals 5) (vals 11) (vals 12) (vals 13)
                rw [dA, dB]
                exact hm
              refine Reg.Steps.cons (k' := 16) rfl ?_ ?_
              · intro D vals a W hR hd hde ev K' hK
                have dA := Reg.dep hde 11 rfl
                have dB := Reg.dep hde 13 rfl
                have h := hR.2
                rw [hd, dA, dB] at h
                obtain ⟨A7, c7, g7, e1, e2, hb, hm⟩ := mm_s2 h
                have xA : a.tmps[97]? = some _ := ev.done 11 97 rfl dA
                have xB : a.tmps[11]? = some _ := ev.done 13 11 rfl dB
                rw [e1] at xA
                rw [e2] at xB
                refine step_store_row rfl _ _ _ rfl g7 _ (Reg.eval_of xB) (Reg.eval_of xA) 52 _ hb (by kernel_rfl) rfl (by first | exact sS_one _ _ _ _ _ _ | exact sR_one _ _ _ _ _) (hK undef _ ⟨hR.1.step (.inl rfl), ?_⟩)
                have e3 : Reg.upd D 15 11 = true := dA
                have e4 : Reg.upd D 15 13 = true := dB
                show MM U _ y xm xx rn (runX 1 S y) (D 5) (D 11) (D 12) (D 13) (D 14) true (vals 5) (vals 11) (vals 12) (vals 13)
                rw [dA, dB]
                exact hm
              exact Reg.Steps.nil
            · intro D vals W hD hR
              have hm := hR.2
              rw [hD 5 (by decide), hD 11 (by decide), hD 12 (by decide), hD 13 (by decide), hD 14 (by decide), hD 15 (by decide)] at hm
              clear hR hD
              obtain ⟨A7, c7, B7, e7, gS, gR, hm⟩ := hm
              obtain ⟨-, hA1, hA2⟩ := hm.c1 rfl
              obtain ⟨-, hB1, hB2⟩ := hm.c2 rfl
              obtain ⟨ev12, hgS, hkS⟩ := hm.s1 rfl
              obtain ⟨ev13, hgR, hkR⟩ := hm.s2 rfl
              have HBU := Lib.hid hm.bel
              have HA1 := Lib.hid hA1
              have HB1 := Lib.hid hB1
              have HA2 := Lib.hid hA2
              have HB2 := Lib.hid hB2
              have HGS := Lib.hid hgS
              have HGR := Lib.hid hgR
              have HKS : Hid (Blk W gS 48 #[.int .u64 (y : Int), .int .u64 (xm : Int), .int .u64 (xx : Int), .slice A7 rn c7]) := Lib.hid hkS
              have HKR : Hid (Blk W gR 52 #[.int .u64 (y : Int), .int .u64 (xx : Int), .slice B7 rn e7]) := Lib.hid hkR
              clear hm hA1 hA2 hB1 hB2 hgS hgR hkS hkR
              simp only [Reg.fin, Act.put, List.setIfInBounds_toArray, List.set_cons_zero, List.set_cons_succ, ev12, ev13]
              clear ev12 ev13
              generalize vals 0 = z0; generalize vals 1 = z1; generalize vals 2 = z2; generalize vals 3 = z3; generalize vals 4 = z4; generalize vals 5 = z5; generalize vals 6 = z6; generalize vals 7 = z7; generalize vals 8 = z8; generalize vals 9 = z9; generalize vals 10 = z10; generalize vals 11 = z11
              clear vals
              go_wp2_with fail
              have HV : Hid (∃ V, V = W) := Lib.hid ⟨W, rfl⟩
              obtain ⟨V, hV⟩ := HV.out
              rw [← hV] at HBU HA1 HB1 HKS HKR ⊢
              clear hV HV
              have CL : Hid (∀ W, Below V.heap.size V W → Calls Try.prog 47 #[.agg #[.int .u64 (y : Int), .int .u64 (xx : Int), .slice B7 rn e7]] W fun e w' => e = .returned (.int .u64 (xm : Int)) ∧ Below W.heap.size W w') := Lib.hid (fun W h => by
                have := least_any (own := y) (xmax := xx) (Sl.on HB1.out h) HRS.out.1 (by rw [← HXX.out]; exact HRS.out.2)
                rw [HRN.out, HXM.out] at this
                exact this)
              have CSM : Hid (∀ W, Below V.heap.size V W → Calls Try.prog 48 #[.slice A7 rn c7, .slice B7 rn e7] W fun e w' => e = .returned (.bool true) ∧ Below W.heap.size W w') := Lib.hid (fun W h => by
                have := same_any (Sl.on HA1.out h) (Sl.on HB1.out h)
                rw [HRN.out] at this
                refine this.mono ?_
                rintro e w' ⟨rfl, m, rfl⟩
                exact ⟨by simp [sameB], rfl, rfl, rfl, Nat.le_refl _, fun _ _ => rfl⟩)
              refine Reg.wp_region_inv_lit (by kernel_rfl) (by kernel_rfl) (fun D vals W => Reg.Fx (fun k9 => ([some (.pointer (some ⟨gS, 0, none⟩)), some (.int .u64 (y : Int)), some (.pointer (some ⟨gR, 0, none⟩)), some (.int .u64 (y : Int)), some (.bool false), some (.bool false), some (.pointer (some ⟨gS, 2, none⟩)), some (.int .u64 (xx : Int)), some (.pointer (some ⟨gR, 1, none⟩)), some (.int .u64 (xx : Int)), some (.bool false), some (.bool false), some (.bool false), some (.pointer (some ⟨gS, 1, none⟩)), some (.int .u64 (xm : Int)), some (.agg #[.int .u64 (y : Int), .int .u64 (xx : Int), .slice B7 rn e7]), some (.int .u64 (xm : Int)), some (.bool false), some (.bool false), some (.bool false), some (.pointer (some ⟨gS, 3, none⟩)), some (.slice A7 rn c7), some (.pointer (some ⟨gR, 2, none⟩)), some (.slice B7 rn e7), some (.bool true), some (.bool false), some (.bool false)] : List (Option Value)).getD k9 none) D vals ∧ Below V.heap.size V W) ⟨Reg.Fx.init _ _, ⟨rfl, rfl, rfl, Nat.le_refl _, fun _ _ => rfl⟩⟩ (fun Q' => ?_) ?_
              · refine Reg.Steps.cons (k' := 1) rfl ?_ ?_
                · intro D vals a W hR hd hde ev K' hK
                  have x10 : a.tmps[10]? = some (.pointer (some ⟨gS, 0, none⟩)) := (ev.out 10 (by kernel_rfl)).trans rfl
                  clear hde ev hd
                  go_simp
                  exact hK _ _ ⟨hR.1.step (.inr rfl), hR.2⟩
                refine Reg.Steps.cons (k' := 2) rfl ?_ ?_
                · intro D vals a W hR hd hde ev K' hK
                  have d0 := Reg.dep hde 0 rfl
                  have x98 : a.tmps[98]? = some (.pointer (some ⟨gS, 0, none⟩)) := ev.got hR.1 0 98 _ rfl rfl d0
                  have q0 := (HKS.out.below hR.2 HKS.out.lt).cell 0
                  clear hde ev hd
                  go_simp
                  exact hK _ _ ⟨hR.1.step (.inr rfl), hR.2⟩
                refine Reg.Steps.cons (k' := 3) rfl ?_ ?_
                · intro D vals a W hR hd hde ev K' hK
                  have x11 : a.tmps[11]? = some (.pointer (some ⟨gR, 0, none⟩)) := (ev.out 11 (by kernel_rfl)).trans rfl
                  clear hde ev hd
                  go_simp
                  exact hK _ _ ⟨hR.1.step (.inr rfl), hR.2⟩
                refine Reg.Steps.cons (k' := 4) rfl ?_ ?_
                · intro D vals a W hR hd hde ev K' hK
                  have d2 := Reg.dep hde 2 rfl
                  have x100 : a.tmps[100]? = some (.pointer (some ⟨gR, 0, none⟩)) := ev.got hR.1 2 100 _ rfl rfl d2
                  have q0 := (HKR.out.below hR.2 HKR.out.lt).cell 0
                  clear hde ev hd
                  go_simp
                  exact hK _ _ ⟨hR.1.step (.inr rfl), hR.2⟩
                refine Reg.Steps.cons (k' := 5) rfl ?_ ?_
                · intro D vals a W hR hd hde ev K' hK
                  have d1 := Reg.dep hde 1 rfl
                  have x99 : a.tmps[99]? = some (.int .u64 (y : Int)) := ev.got hR.1 1 99 _ rfl rfl d1
                  have d3 := Reg.dep hde 3 rfl
                  have x101 : a.tmps[101]? = some (.int .u64 (y : Int)) := ev.got hR.1 3 101 _ rfl rfl d3
                  clear hde ev hd
                  go_simp
                  exact hK _ _ ⟨hR.1.step (.inr rfl), hR.2⟩
                refine Reg.Steps.cons (k' := 6) rfl ?_ ?_
                · intro D vals a W hR hd hde ev K' hK
                  have d4 := Reg.dep hde 4 rfl
                  have x102 : a.tmps[102]? = some (.bool false) := ev.got hR.1 4 102 _ rfl rfl d4
                  clear hde ev hd
                  go_simp
                  exact hK _ _ ⟨hR.1.step (.inr rfl), hR.2⟩
                refine Reg.Steps.cons (k' := 7) rfl ?_ ?_
                · intro D vals a W hR hd hde ev K' hK
                  have x10 : a.tmps[10]? = some (.pointer (some ⟨gS, 0, none⟩)) := (ev.out 10 (by kernel_rfl)).trans rfl
                  have dg := Reg.dep hde 5 rfl
                  have xg : a.tmps[103]? = some (.bool false) := ev.got hR.1 5 103 _ rfl rfl dg
                  rw [if_pos (Reg.wanted_of rfl (Reg.yielded_of (t := 103) rfl xg))]
                  clear hde ev hd
                  go_simp
                  exact hK _ _ ⟨hR.1.step (.inr rfl), hR.2⟩
                refine Reg.Steps.cons (k' := 8) rfl ?_ ?_
                · intro D vals a W hR hd hde ev K' hK
                  have d6 := Reg.dep hde 6 rfl
                  have x104 : a.tmps[104]? = some (.pointer (some ⟨gS, 2, none⟩)) := ev.got hR.1 6 104 _ rfl rfl d6
                  have q2 := (HKS.out.below hR.2 HKS.out.lt).cell 2
                  have dg := Reg.dep hde 5 rfl
                  have xg : a.tmps[103]? = some (.bool false) := ev.got hR.1 5 103 _ rfl rfl dg
                  rw [if_pos (Reg.wanted_of rfl (Reg.yielded_of (t := 103) rfl xg))]
                  clear hde ev hd
                  go_simp
                  exact hK _ _ ⟨hR.1.step (.inr rfl), hR.2⟩
                refine Reg.Steps.cons (k' := 9) rfl ?_ ?_
                · intro D vals a W hR hd hde ev K' hK
                  have x11 : a.tmps[11]? = some (.pointer (some ⟨gR, 0, none⟩)) := (ev.out 11 (by kernel_rfl)).trans rfl
                  have dg := Reg.dep hde 5 rfl
                  have xg : a.tmps[103]? = some (.bool false) := ev.got hR.1 5 103 _ rfl rfl dg
                  rw [if_pos (Reg.wanted_of rfl (Reg.yielded_of (t := 103) rfl xg))]
                  clear hde ev hd
                  go_simp
                  exact hK _ _ ⟨hR.1.step (.inr rfl), hR.2⟩
                refine Reg.Steps.cons (k' := 10) rfl ?_ ?_
                · intro D vals a W hR hd hde ev K' hK
                  have d8 := Reg.dep hde 8 rfl
                  have x106 : a.tmps[106]? = some (.pointer (some ⟨gR, 1, none⟩)) := ev.got hR.1 8 106 _ rfl rfl d8
                  have q1 := (HKR.out.below hR.2 HKR.out.lt).cell 1
                  have dg := Reg.dep hde 5 rfl
                  have xg : a.tmps[103]? = some (.bool false) := ev.got hR.1 5 103 _ rfl rfl dg
                  rw [if_pos (Reg.wanted_of rfl (Reg.yielded_of (t := 103) rfl xg))]
                  clear hde ev hd
                  go_simp
                  exact hK _ _ ⟨hR.1.step (.inr rfl), hR.2⟩
                refine Reg.Steps.cons (k' := 11) rfl ?_ ?_
                · intro D vals a W hR hd hde ev K' hK
                  have d7 := Reg.dep hde 7 rfl
                  have x105 : a.tmps[105]? = some (.int .u64 (xx : Int)) := ev.got hR.1 7 105 _ rfl rfl d7
                  have d9 := Reg.dep hde 9 rfl
                  have x107 : a.tmps[107]? = some (.int .u64 (xx : Int)) := ev.got hR.1 9 107 _ rfl rfl d9
                  have dg := Reg.dep hde 5 rfl
                  have xg : a.tmps[103]? = some (.bool false) := ev.got hR.1 5 103 _ rfl rfl dg
                  rw [if_pos (Reg.wanted_of rfl (Reg.yielded_of (t := 103) rfl xg))]
                  clear hde ev hd
                  go_simp
                  exact hK _ _ ⟨hR.1.step (.inr rfl), hR.2⟩
                refine Reg.Steps.cons (k' := 12) rfl ?_ ?_
                · intro D vals a W hR hd hde ev K' hK
                  have d5 := Reg.dep hde 5 rfl
                  have x103 : a.tmps[103]? = some (.bool false) := ev.got hR.1 5 103 _ rfl rfl d5
                  have d10 := Reg.dep hde 10 rfl
                  have x108 : a.tmps[108]? = some (.bool false) := ev.got hR.1 10 108 _ rfl rfl d10
                  clear hde ev hd
                  go_simp
                  exact hK _ _ ⟨hR.1.step (.inr rfl), hR.2⟩
                refine Reg.Steps.cons (k' := 13) rfl ?_ ?_
                · intro D vals a W hR hd hde ev K' hK
                  have d11 := Reg.dep hde 11 rfl
                  have x109 : a.tmps[109]? = some (.bool false) := ev.got hR.1 11 109 _ rfl rfl d11
                  clear hde ev hd
                  go_simp
                  exact hK _ _ ⟨hR.1.step (.inr rfl), hR.2⟩
                refine Reg.Steps.cons (k' := 14) rfl ?_ ?_
                · intro D vals a W hR hd hde ev K' hK
                  have x10 : a.tmps[10]? = some (.pointer (some ⟨gS, 0, none⟩)) := (ev.out 10 (by kernel_rfl)).trans rfl
                  have dg := Reg.dep hde 12 rfl
                  have xg : a.tmps[110]? = some (.bool false) := ev.got hR.1 12 110 _ rfl rfl dg
                  rw [if_pos (Reg.wanted_of rfl (Reg.yielded_of (t := 110) rfl xg))]
                  clear hde ev hd
                  go_simp
                  exact hK _ _ ⟨hR.1.step (.inr rfl), hR.2⟩
                refine Reg.Steps.cons (k' := 15) rfl ?_ ?_
                · intro D vals a W hR hd hde ev K' hK
                  have d13 := Reg.dep hde 13 rfl
                  have x111 : a.tmps[111]? = some (.pointer (some ⟨gS, 1, none⟩)) := ev.got hR.1 13 111 _ rfl rfl d13
                  have q1 := (HKS.out.below hR.2 HKS.out.lt).cell 1
                  have dg := Reg.dep hde 12 rfl
                  have xg : a.tmps[110]? = some (.bool false) := ev.got hR.1 12 110 _ rfl rfl dg
                  rw [if_pos (Reg.wanted_of rfl (Reg.yielded_of (t := 110) rfl xg))]
                  clear hde ev hd
                  go_simp
                  exact hK _ _ ⟨hR.1.step (.inr rfl), hR.2⟩
                refine Reg.Steps.cons (k' := 16) rfl ?_ ?_
                · intro D vals a W hR hd hde ev K' hK
                  have x11 : a.tmps[11]? = some (.pointer (some ⟨gR, 0, none⟩)) := (ev.out 11 (by kernel_rfl)).trans rfl
                  have kr := HKR.out.below hR.2 HKR.out.lt
                  have q0 := kr.cell 0
                  have q1 := kr.cell 1
                  have q2 := kr.cell 2
                  clear kr
                  have dg := Reg.dep hde 12 rfl
                  have xg : a.tmps[110]? = some (.bool false) := ev.got hR.1 12 110 _ rfl rfl dg
                  rw [if_pos (Reg.wanted_of rfl (Reg.yielded_of (t := 110) rfl xg))]
                  clear hde ev hd
                  go_simp
                  exact hK _ _ ⟨hR.1.step (.inr rfl), hR.2⟩
                refine Reg.Steps.cons (k' := 17) rfl ?_ ?_
                · intro D vals a W hR hd hde ev K' hK
                  have d15 := Reg.dep hde 15 rfl
                  have x113 : a.tmps[113]? = some (.agg #[.int .u64 (y : Int), .int .u64 (xx : Int), .slice B7 rn e7]) := ev.got hR.1 15 113 _ rfl rfl d15
                  have dg := Reg.dep hde 12 rfl
                  have xg : a.tmps[110]? = some (.bool false) := ev.got hR.1 12 110 _ rfl rfl dg
                  rw [if_pos (Reg.wanted_of rfl (Reg.yielded_of (t := 110) rfl xg))]
                  have CC := Lib.hid (CL.out W hR.2)
                  clear hde ev hd
                  go_simp
                  refine CC.out.mono ?_
                  rintro e W1 ⟨rfl, hb⟩
                  exact hK _ _ ⟨hR.1.step (.inr rfl), hR.2.trans (hb.mono hR.2.size)⟩
                refine Reg.Steps.cons (k' := 18) rfl ?_ ?_
                · intro D vals a W hR hd hde ev K' hK
                  have d14 := Reg.dep hde 14 rfl
                  have x112 : a.tmps[112]? = some (.int .u64 (xm : Int)) := ev.got hR.1 14 112 _ rfl rfl d14
                  have d16 := Reg.dep hde 16 rfl
                  have x114 : a.tmps[114]? = some (.int .u64 (xm : Int)) := ev.got hR.1 16 114 _ rfl rfl d16
                  have dg := Reg.dep hde 12 rfl
                  have xg : a.tmps[110]? = some (.bool false) := ev.got hR.1 12 110 _ rfl rfl dg
                  rw [if_pos (Reg.wanted_of rfl (Reg.yielded_of (t := 110) rfl xg))]
                  clear hde ev hd
                  go_simp
                  exact hK _ _ ⟨hR.1.step (.inr rfl), hR.2⟩
                refine Reg.Steps.cons (k' := 19) rfl ?_ ?_
                · intro D vals a W hR hd hde ev K' hK
                  have d12 := Reg.dep hde 12 rfl
                  have x110 : a.tmps[110]? = some (.bool false) := ev.got hR.1 12 110 _ rfl rfl d12
                  have d17 := Reg.dep hde 17 rfl
                  have x115 : a.tmps[115]? = some (.bool false) := ev.got hR.1 17 115 _ rfl rfl d17
                  clear hde ev hd
                  go_simp
                  exact hK _ _ ⟨hR.1.step (.inr rfl), hR.2⟩
                refine Reg.Steps.cons (k' := 20) rfl ?_ ?_
                · intro D vals a W hR hd hde ev K' hK
                  have d18 := Reg.dep hde 18 rfl
                  have x116 : a.tmps[116]? = some (.bool false) := ev.got hR.1 18 116 _ rfl rfl d18
                  clear hde ev hd
                  go_simp
                  exact hK _ _ ⟨hR.1.step (.inr rfl), hR.2⟩
                refine Reg.Steps.cons (k' := 21) rfl ?_ ?_
                · intro D vals a W hR hd hde ev K' hK
                  have x10 : a.tmps[10]? = some (.pointer (some ⟨gS, 0, none⟩)) := (ev.out 10 (by kernel_rfl)).trans rfl
                  have dg := Reg.dep hde 19 rfl
                  have xg : a.tmps[117]? = some (.bool false) := ev.got hR.1 19 117 _ rfl rfl dg
                  rw [if_pos (Reg.wanted_of rfl (Reg.yielded_of (t := 117) rfl xg))]
                  clear hde ev hd
                  go_simp
                  exact hK _ _ ⟨hR.1.step (.inr rfl), hR.2⟩
                refine Reg.Steps.cons (k' := 22) rfl ?_ ?_
                · intro D vals a W hR hd hde ev K' hK
                  have d20 := Reg.dep hde 20 rfl
                  have x118 : a.tmps[118]? = some (.pointer (some ⟨gS, 3, none⟩)) := ev.got hR.1 20 118 _ rfl rfl d20
                  have q3 := (HKS.out.below hR.2 HKS.out.lt).cell 3
                  have dg := Reg.dep hde 19 rfl
                  have xg : a.tmps[117]? = some (.bool false) := ev.got hR.1 19 117 _ rfl rfl dg
                  rw [if_pos (Reg.wanted_of rfl (Reg.yielded_of (t := 117) rfl xg))]
                  clear hde ev hd
                  go_simp
                  exact hK _ _ ⟨hR.1.step (.inr rfl), hR.2⟩
                refine Reg.Steps.cons (k' := 23) rfl ?_ ?_
                · intro D vals a W hR hd hde ev K' hK
                  have x11 : a.tmps[11]? = some (.pointer (some ⟨gR, 0, none⟩)) := (ev.out 11 (by kernel_rfl)).trans rfl
                  have dg := Reg.dep hde 19 rfl
                  have xg : a.tmps[117]? = some (.bool false) := ev.got hR.1 19 117 _ rfl rfl dg
                  rw [if_pos (Reg.wanted_of rfl (Reg.yielded_of (t := 117) rfl xg))]
                  clear hde ev hd
                  go_simp
                  exact hK _ _ ⟨hR.1.step (.inr rfl), hR.2⟩
                refine Reg.Steps.cons (k' := 24) rfl ?_ ?_
                · intro D vals a W hR hd hde ev K' hK
                  have d22 := Reg.dep hde 22 rfl
                  have x120 : a.tmps[120]? = some (.pointer (some ⟨gR, 2, none⟩)) := ev.got hR.1 22 120 _ rfl rfl d22
                  have q2 := (HKR.out.below hR.2 HKR.out.lt).cell 2
                  have dg := Reg.dep hde 19 rfl
                  have xg : a.tmps[117]? = some (.bool false) := ev.got hR.1 19 117 _ rfl rfl dg
                  rw [if_pos (Reg.wanted_of rfl (Reg.yielded_of (t := 117) rfl xg))]
                  clear hde ev hd
                  go_simp
                  exact hK _ _ ⟨hR.1.step (.inr rfl), hR.2⟩
                refine Reg.Steps.cons (k' := 25) rfl ?_ ?_
                · intro D vals a W hR hd hde ev K' hK
                  have d21 := Reg.dep hde 21 rfl
                  have x119 : a.tmps[119]? = some (.slice A7 rn c7) := ev.got hR.1 21 119 _ rfl rfl d21
                  have d23 := Reg.dep hde 23 rfl
                  have x121 : a.tmps[121]? = some (.slice B7 rn e7) := ev.got hR.1 23 121 _ rfl rfl d23
                  have dg := Reg.dep hde 19 rfl
                  have xg : a.tmps[117]? = some (.bool false) := ev.got hR.1 19 117 _ rfl rfl dg
                  rw [if_pos (Reg.wanted_of rfl (Reg.yielded_of (t := 117) rfl xg))]
                  have CC := Lib.hid (CSM.out W hR.2)
                  clear hde ev hd
                  go_simp
                  refine CC.out.mono ?_
                  rintro e W1 ⟨rfl, hb⟩
                  exact hK _ _ ⟨hR.1.step (.inr rfl), hR.2.trans (hb.mono hR.2.size)⟩
                refine Reg.Steps.cons (k' := 26) rfl ?_ ?_
                · intro D vals a W hR hd hde ev K' hK
                  have d24 := Reg.dep hde 24 rfl
                  have x122 : a.tmps[122]? = some (.bool true) := ev.got hR.1 24 122 _ rfl rfl d24
                  have dg := Reg.dep hde 19 rfl
                  have xg : a.tmps[117]? = some (.bool false) := ev.got hR.1 19 117 _ rfl rfl dg
                  rw [if_pos (Reg.wanted_of rfl (Reg.yielded_of (t := 117) rfl xg))]
                  clear hde ev hd
                  go_simp
                  exact hK _ _ ⟨hR.1.step (.inr rfl), hR.2⟩
                refine Reg.Steps.cons (k' := 27) rfl ?_ ?_
                · intro D vals a W hR hd hde ev K' hK
                  have d19 := Reg.dep hde 19 rfl
                  have x117 : a.tmps[117]? = some (.bool false) := ev.got hR.1 19 117 _ rfl rfl d19
                  have d25 := Reg.dep hde 25 rfl
                  have x123 : a.tmps[123]? = some (.bool false) := ev.got hR.1 25 123 _ rfl rfl d25
                  clear hde ev hd
                  go_simp
                  exact hK _ _ ⟨hR.1.step (.inr rfl), hR.2⟩
                exact Reg.Steps.nil
              · intro D vals W2 hD hR
                have hB2 := hR.2
                have ev26 := hR.1 26 _ rfl (hD 26 (by decide))
                clear hR hD
                have HKS2 := Lib.hid (HKS.out.below hB2 HKS.out.lt)
                have HKR2 := Lib.hid (HKR.out.below hB2 HKR.out.lt)
                have HBU2 := Lib.hid (HBU.out.trans (hB2.mono HBU.out.size))
                have HA3 := Lib.hid (Sl.on HA1.out hB2)
                have HB3 := Lib.hid (Sl.on HB1.out hB2)
                clear hB2 HKS HKR HBU HA1 HB1 CL CSM
                simp only [Reg.fin, Act.put, List.setIfInBounds_toArray, List.set_cons_zero, List.set_cons_succ, ev26]
                clear ev26
                generalize vals 0 = z0; generalize vals 1 = z1; generalize vals 2 = z2; generalize vals 3 = z3; generalize vals 4 = z4; generalize vals 5 = z5; generalize vals 6 = z6; generalize vals 7 = z7; generalize vals 8 = z8; generalize vals 9 = z9; generalize vals 10 = z10; generalize vals 11 = z11; generalize vals 12 = z12; generalize vals 13 = z13; generalize vals 14 = z14; generalize vals 15 = z15; generalize vals 16 = z16; generalize vals 17 = z17; generalize vals 18 = z18; generalize vals 19 = z19; generalize vals 20 = z20; generalize vals 21 = z21; generalize vals 22 = z22; generalize vals 23 = z23; generalize vals 24 = z24; generalize vals 25 = z25
                clear vals
                go_wp2_with fail
                have HV2 : Hid (∃ V2, V2 = W2) := Lib.hid ⟨W2, rfl⟩
                obtain ⟨V2, hV2⟩ := HV2.out
                rw [← hV2] at HKS2 HKR2 HBU2 HA3 HB3 ⊢
                clear hV2 HV2 W2 V W
                have HP6 := Lib.hid (HP4.out.below HBU2.out)
                obtain ⟨sp, hsp⟩ : ∃ sp : Sp, sp = ⟨y, xm, xx, runX 1 S y, A7, c7, B7, e7⟩ := ⟨_, rfl⟩
                have eca : sp.ca.toArray = #[.int .u64 (y : Int), .int .u64 (xm : Int), .int .u64 (xx : Int), .slice A7 rn c7] := by rw [hsp]; unfold Sp.ca; rw [HRN.out]
                have ecb : sp.cb.toArray = #[.int .u64 (y : Int), .int .u64 (xx : Int), .slice B7 rn e7] := by rw [hsp]; unfold Sp.cb; rw [HRN.out]
                have HECA := Lib.hid eca
                have HECB := Lib.hid ecb
                have HM0 : Hid (M24 w.heap.size V2 V2.drew PB P Q sl A1 c1 B1 d1 n1 sp false false false false false false undef undef undef undef) := Lib.hid (by
                  have h := HP6.out
                  have h1 := h.pb; have h2 := h.oa; have h3 := h.ob
                  rw [HN1.out] at h1 h2 h3
                  exact m24_new h1 h2 h3 sp _ _ _ _)
                have HKS3 : Hid (∀ W, Turn (GP PB (.slice A1 n1 c1) (.slice B1 n1 d1)) V2 W → Blk W gS 48 #[.int .u64 (y : Int), .int .u64 (xm : Int), .int .u64 (xx : Int), .slice A7 rn c7]) := Lib.hid (fun W hT => hT.blk HKS2.out (fun hg => by
                  have h1 := HGS.out
                  obtain ⟨F, G, _, _, _, _, _, h6, _⟩ := HP4.out.ap
                  have hk : K gS := by
                    rcases hg with rfl | hg | hg
                    · exact HP4.out.kPB
                    · exact HP4.out.kA gS (by rw [HN1.out]; exact hg)
                    · exact HP4.out.kB gS (by rw [HN1.out]; exact hg)
                  have := (h6 _ hk).2.2
                  omega))
                have HKR3 : Hid (∀ W, Turn (GP PB (.slice A1 n1 c1) (.slice B1 n1 d1)) V2 W → Blk W gR 52 #[.int .u64 (y : Int), .int .u64 (xx : Int), .slice B7 rn e7]) := Lib.hid (fun W hT => hT.blk HKR2.out (fun hg => by
                  have h1 := HGR.out
                  obtain ⟨F, G, _, _, _, _, _, h6, _⟩ := HP4.out.ap
                  have hk : K gR := by
                    rcases hg with rfl | hg | hg
                    · exact HP4.out.kPB
                    · exact HP4.out.kA gR (by rw [HN1.out]; exact hg)
                    · exact HP4.out.kB gR (by rw [HN1.out]; exact hg)
                  have := (h6 _ hk).2.2
                  omega))
                have HBW : Hid (w.heap.size ≤ V2.heap.size) := Lib.hid HP6.out.ap.bel.size
                have HSP := Lib.hid hsp
                clear HKS2 HKR2 eca ecb hsp
                have HKS2 := HKS3
                have HKR2 := HKR3
                refine Reg.wp_region_inv_lit (by kernel_rfl) (by kernel_rfl) (fun D vals W => Reg.Fx (fun k9 => ([some (.pointer (some ⟨PB, 0, none⟩)), some (.pointer (some ⟨PB, 0, none⟩)), some (.pointer (some ⟨PB, 0, none⟩)), some (.pointer (some ⟨PB, 0, none⟩)), some (.pointer (some ⟨PB, 2, none⟩)), some (.slice A1 n1 c1), some (.agg #[.int .u64 (y : Int), .int .u64 (xm : Int), .int .u64 (xx : Int), .slice A7 rn c7]), none, none, some (.pointer (some ⟨PB, 0, none⟩)), some (.pointer (some ⟨PB, 0, none⟩)), some (.pointer (some ⟨PB, 3, none⟩)), some (.slice B1 n1 d1), some (.agg #[.int .u64 (y : Int), .int .u64 (xx : Int), .slice B7 rn e7]), none, none, some (.pointer (some ⟨PB, 0, none⟩)), some (.pointer (some ⟨PB, 2, none⟩)), none, some (.pointer (some ⟨PB, 0, none⟩)), some (.pointer (some ⟨PB, 3, none⟩)), none] : List (Option Value)).getD k9 none) D vals ∧ M24 w.heap.size V2 W PB P Q sl A1 c1 B1 d1 n1 sp (D 7) (D 8) (D 18) (D 14) (D 15) (D 21) (vals 7) (vals 8) (vals 14) (vals 15) ∧ (D 5 = false → D 18 = false) ∧ (D 12 = false → D 21 = false)) ⟨Reg.Fx.init _ _, HM0.out, fun _ => rfl, fun _ => rfl⟩ (fun Q' => ?_) ?_
                · refine Reg.Steps.cons (k' := 1) rfl ?_ ?_
                  · intro D vals a W hR hd hde ev K' hK
                    have x6 : a.tmps[6]? = some (.pointer (some ⟨PB, 0, none⟩)) := (ev.out 6 (by kernel_rfl)).trans rfl
                    clear hde ev hd
                    go_simp
                    exact hK _ _ ⟨hR.1.step (.inr rfl), hR.2⟩
                  refine Reg.Steps.cons (k' := 2) rfl ?_ ?_
                  · intro D vals a W hR hd hde ev K' hK
                    have x6 : a.tmps[6]? = some (.pointer (some ⟨PB, 0, none⟩)) := (ev.out 6 (by kernel_rfl)).trans rfl
                    clear hde ev hd
                    go_simp
                    exact hK _ _ ⟨hR.1.step (.inr rfl), hR.2⟩
                  refine Reg.Steps.cons (k' := 3) rfl ?_ ?_
                  · intro D vals a W hR hd hde ev K' hK
                    have x6 : a.tmps[6]? = some (.pointer (some ⟨PB, 0, none⟩)) := (ev.out 6 (by kernel_rfl)).trans rfl
                    clear hde ev hd
                    go_simp
                    exact hK _ _ ⟨hR.1.step (.inr rfl), hR.2⟩
                  refine Reg.Steps.cons (k' := 4) rfl ?_ ?_
                  · intro D vals a W hR hd hde ev K' hK
                    have d2 := Reg.dep hde 2 rfl
                    have x127 : a.tmps[127]? = some (.pointer (some ⟨PB, 0, none⟩)) := ev.got hR.1 2 127 _ rfl rfl d2
                    clear hde ev hd
                    go_simp
                    exact hK _ _ ⟨hR.1.step (.inr rfl), hR.2⟩
                  refine Reg.Steps.cons (k' := 5) rfl ?_ ?_
                  · intro D vals a W hR hd hde ev K' hK
                    have d3 := Reg.dep hde 3 rfl
                    have x128 : a.tmps[128]? = some (.pointer (some ⟨PB, 0, none⟩)) := ev.got hR.1 3 128 _ rfl rfl d3
                    clear hde ev hd
                    go_simp
                    exact hK _ _ ⟨hR.1.step (.inr rfl), hR.2⟩
                  refine Reg.Steps.cons (k' := 6) rfl ?_ ?_
                  · intro D vals a W hR hd hde ev K' hK
                    have d4 := Reg.dep hde 4 rfl
                    have x129 : a.tmps[129]? = some (.pointer (some ⟨PB, 2, none⟩)) := ev.got hR.1 4 129 _ rfl rfl d4
                    have w18 : D 18 = false := (hR.2.2.1 hd)
                    have q := hR.2.1.cellA' w18
                    clear hde ev hd
                    go_simp
                    exact hK _ _ ⟨hR.1.step (.inr rfl), hR.2.1, nofun, hR.2.2.2⟩
                  refine Reg.Steps.cons (k' := 7) rfl ?_ ?_
                  · intro D vals a W hR hd hde ev K' hK
                    have x10 : a.tmps[10]? = some (.pointer (some ⟨gS, 0, none⟩)) := (ev.out 10 (by kernel_rfl)).trans rfl
                    have ks := HKS2.out W hR.2.1.turn
                    have q0 := ks.cell 0
                    have q1 := ks.cell 1
                    have q2 := ks.cell 2
                    have q3 := ks.cell 3
                    clear ks
                    clear hde ev hd
                    go_simp
                    exact hK _ _ ⟨hR.1.step (.inr rfl), hR.2⟩
                  refine Reg.Steps.cons (k' := 8) rfl ?_ ?_
                  · intro D vals a W hR hd hde ev K' hK
                    have d6 := Reg.dep hde 6 rfl
                    have x131 : a.tmps[131]? = some (.agg #[.int .u64 (y : Int), .int .u64 (xm : Int), .int .u64 (xx : Int), .slice A7 rn c7]) := ev.got hR.1 6 131 _ rfl rfl d6
                    clear hde ev
                    have hm := m24_ba (by have h := hR.2.1; rw [hd] at h; exact h)
                    rw [HECA.out] at hm
                    have HM := Lib.hid hm
                    have HR := Lib.hid hR
                    clear hm hR
                    go_simp
                    exact hK _ _ ⟨HR.out.1.step (.inl rfl), HM.out, HR.out.2.2⟩
                  refine Reg.Steps.cons (k' := 9) rfl ?_ ?_
                  · intro D vals a W hR hd hde ev K' hK
                    have d5 := Reg.dep hde 5 rfl
                    have x130 : a.tmps[130]? = some (.slice A1 n1 c1) := ev.got hR.1 5 130 _ rfl rfl d5
                    have dL := Reg.dep hde 7 rfl
                    have h := hR.2.1
                    rw [hd, dL] at h
                    obtain ⟨g7, e1, hg7, hb7⟩ := h.la rfl rfl
                    have xL : a.tmps[132]? = some _ := ev.done 7 132 rfl dL
                    rw [e1] at xL
                    have hown : W.ownsRow w.heap.size 48 4 _ n1 _ := h.oa
                    obtain ⟨i, hi, hz0, hz1, hz2⟩ := info_parts infoSn
                    rw [if_pos (Reg.wanted_none rfl)]
                    refine wp_append_mem W _ _ _ rfl w.heap.size 48 i _ 4 48 Try.underlying32 hi hz0 hz1 hz2 rfl (by omega) _ n1 _ (Reg.eval_of x130) hown W.heap.size _ 1 sp.ca (Reg.eval_of xL) (lies_blk hb7 rfl) (ca_one sp) (by unfold maxLen; omega) (by omega) (by have := HBW.out; have := h.turn.size; omega) ?_
                    intro v7 W1 ho7 hk7
                    refine hK v7 W1 ⟨hR.1.step (.inl rfl), ?_, ?_⟩
                    · show M24 w.heap.size V2 W1 PB P Q sl A1 c1 B1 d1 n1 sp (D 7) true (D 18) (D 14) (D 15) (D 21) (vals 7) v7 (vals 14) (vals 15)
                      rw [dL]
                      exact m24_bA h ho7 hk7
                    · exact hR.2.2
                  refine Reg.Steps.cons (k' := 10) rfl ?_ ?_
                  · intro D vals a W hR hd hde ev K' hK
                    have x6 : a.tmps[6]? = some (.pointer (some ⟨PB, 0, none⟩)) := (ev.out 6 (by kernel_rfl)).trans rfl
                    clear hde ev hd
                    go_simp
                    exact hK _ _ ⟨hR.1.step (.inr rfl), hR.2⟩
                  refine Reg.Steps.cons (k' := 11) rfl ?_ ?_
                  · intro D vals a W hR hd hde ev K' hK
                    have d9 := Reg.dep hde 9 rfl
                    have x134 : a.tmps[134]? = some (.pointer (some ⟨PB, 0, none⟩)) := ev.got hR.1 9 134 _ rfl rfl d9
                    clear hde ev hd
                    go_simp
                    exact hK _ _ ⟨hR.1.step (.inr rfl), hR.2⟩
                  refine Reg.Steps.cons (k' := 12) rfl ?_ ?_
                  · intro D vals a W hR hd hde ev K' hK
                    have d10 := Reg.dep hde 10 rfl
                    have x135 : a.tmps[135]? = some (.pointer (some ⟨PB, 0, none⟩)) := ev.got hR.1 10 135 _ rfl rfl d10
                    clear hde ev hd
                    go_simp
                    exact hK _ _ ⟨hR.1.step (.inr rfl), hR.2⟩
                  refine Reg.Steps.cons (k' := 13) rfl ?_ ?_
                  · intro D vals a W hR hd hde ev K' hK
                    have d11 := Reg.dep hde 11 rfl
                    have x136 : a.tmps[136]? = some (.pointer (some ⟨PB, 3, none⟩)) := ev.got hR.1 11 136 _ rfl rfl d11
                    have w21 : D 21 = false := (hR.2.2.2 hd)
                    have q := hR.2.1.cellB' w21
                    clear hde ev hd
                    go_simp
                    exact hK _ _ ⟨hR.1.step (.inr rfl), hR.2.1, hR.2.2.1, nofun⟩
                  refine Reg.Steps.cons (k' := 14) rfl ?_ ?_
                  · intro D vals a W hR hd hde ev K' hK
                    have x11 : a.tmps[11]? = some (.pointer (some ⟨gR, 0, none⟩)) := (ev.out 11 (by kernel_rfl)).trans rfl
                    have ks := HKR2.out W hR.2.1.turn
                    have q0 := ks.cell 0
                    have q1 := ks.cell 1
                    have q2 := ks.cell 2
                    clear ks
                    clear hde ev hd
                    go_simp
                    exact hK _ _ ⟨hR.1.step (.inr rfl), hR.2⟩
                  refine Reg.Steps.cons (k' := 15) rfl ?_ ?_
                  · intro D vals a W hR hd hde ev K' hK
                    have d13 := Reg.dep hde 13 rfl
                    have x138 : a.tmps[138]? = some (.agg #[.int .u64 (y : Int), .int .u64 (xx : Int), .slice B7 rn e7]) := ev.got hR.1 13 138 _ rfl rfl d13
                    clear hde ev
                    have hm := m24_bb (by have h := hR.2.1; rw [hd] at h; exact h)
                    rw [HECB.out] at hm
                    have HM := Lib.hid hm
                    have HR := Lib.hid hR
                    clear hm hR
                    go_simp
                    exact hK _ _ ⟨HR.out.1.step (.inl rfl), HM.out, HR.out.2.2⟩
                  refine Reg.Steps.cons (k' := 16) rfl ?_ ?_
                  · intro D vals a W hR hd hde ev K' hK
                    have d12 := Reg.dep hde 12 rfl
                    have x137 : a.tmps[137]? = some (.slice B1 n1 d1) := ev.got hR.1 12 137 _ rfl rfl d12
                    have dL := Reg.dep hde 14 rfl
                    have h := hR.2.1
                    rw [hd, dL] at h
                    obtain ⟨g7, e1, hg7, hb7⟩ := h.lb rfl rfl
                    have xL : a.tmps[139]? = some _ := ev.done 14 139 rfl dL
                    rw [e1] at xL
                    have hown : W.ownsRow w.heap.size 52 3 _ n1 _ := h.ob
                    obtain ⟨i, hi, hz0, hz1, hz2⟩ := info_parts infoRn
                    rw [if_pos (Reg.wanted_none rfl)]
                    refine wp_append_mem W _ _ _ rfl w.heap.size 52 i _ 3 40 Try.underlying33 hi hz0 hz1 hz2 rfl (by omega) _ n1 _ (Reg.eval_of x137) hown W.heap.size _ 1 sp.cb (Reg.eval_of xL) (lies_blk hb7 rfl) (cb_one sp) (by unfold maxLen; omega) (by omega) (by have := HBW.out; have := h.turn.size; omega) ?_
                    intro v7 W1 ho7 hk7
                    refine hK v7 W1 ⟨hR.1.step (.inl rfl), ?_, ?_⟩
                    · show M24 w.heap.size V2 W1 PB P Q sl A1 c1 B1 d1 n1 sp (D 7) (D 8) (D 18) (D 14) true (D 21) (vals 7) (vals 8) (vals 14) v7
                      rw [dL]
                      exact m24_bB h ho7 hk7
                    · exact hR.2.2
                  refine Reg.Steps.cons (k' := 17) rfl ?_ ?_
                  · intro D vals a W hR hd hde ev K' hK
                    have d0 := Reg.dep hde 0 rfl
                    have x125 : a.tmps[125]? = some (.pointer (some ⟨PB, 0, none⟩)) := ev.got hR.1 0 125 _ rfl rfl d0
                    clear hde ev hd
                    go_simp
                    exact hK _ _ ⟨hR.1.step (.inr rfl), hR.2⟩
                  refine Reg.Steps.cons (k' := 18) rfl ?_ ?_
                  · intro D vals a W hR hd hde ev K' hK
                    have d16 := Reg.dep hde 16 rfl
                    have x141 : a.tmps[141]? = some (.pointer (some ⟨PB, 0, none⟩)) := ev.got hR.1 16 141 _ rfl rfl d16
                    clear hde ev hd
                    go_simp
                    exact hK _ _ ⟨hR.1.step (.inr rfl), hR.2⟩
                  refine Reg.Steps.cons (k' := 19) rfl ?_ ?_
                  · intro D vals a W hR hd hde ev K' hK
                    have d17 := Reg.dep hde 17 rfl
                    have x142 : a.tmps[142]? = some (.pointer (some ⟨PB, 2, none⟩)) := ev.got hR.1 17 142 _ rfl rfl d17
                    have dA := Reg.dep hde 8 rfl
                    have dL := Reg.dep hde 5 rfl
                    have h := hR.2.1
                    rw [hd, dA] at h
                    have xA : a.tmps[133]? = some _ := ev.done 8 133 rfl dA
                    obtain ⟨A9, c9, e9, -⟩ := Sl.of_own (show W.ownsRow w.heap.size 48 4 (vals 8) (n1 + 1) _ from h.oa)
                    rw [e9] at xA
                    have q0 := h.pb.cell 2
                    have f0 := h.pb.frozen 2
                    have HM := Lib.hid (m24_bs h)
                    have HR1 := Lib.hid hR.1
                    have HKL := Lib.hid hR.2.2
                    have HE9 := Lib.hid e9
                    simp only [List.getElem?_toArray, List.getElem?_cons_zero, List.getElem?_cons_succ] at q0
                    clear h hR hde ev hd e9
                    go_simp
                    rw [← HE9.out]
                    refine hK undef _ ⟨HR1.out.step (.inl rfl), ?_, ?_⟩
                    · show M24 w.heap.size V2 _ PB P Q sl A1 c1 B1 d1 n1 sp (D 7) (D 8) true (D 14) (D 15) (D 21) (vals 7) (vals 8) (vals 14) (vals 15)
                      rw [dA]
                      exact HM.out
                    · exact ⟨fun h5 => absurd (show D 5 = false from h5) (by rw [dL]; simp), HKL.out.2⟩
                  refine Reg.Steps.cons (k' := 20) rfl ?_ ?_
                  · intro D vals a W hR hd hde ev K' hK
                    have d1 := Reg.dep hde 1 rfl
                    have x126 : a.tmps[126]? = some (.pointer (some ⟨PB, 0, none⟩)) := ev.got hR.1 1 126 _ rfl rfl d1
                    clear hde ev hd
                    go_simp
                    exact hK _ _ ⟨hR.1.step (.inr rfl), hR.2⟩
                  refine Reg.Steps.cons (k' := 21) rfl ?_ ?_
                  · intro D vals a W hR hd hde ev K' hK
                    have d19 := Reg.dep hde 19 rfl
                    have x143 : a.tmps[143]? = some (.pointer (some ⟨PB, 0, none⟩)) := ev.got hR.1 19 143 _ rfl rfl d19
                    clear hde ev hd
                    go_simp
                    exact hK _ _ ⟨hR.1.step (.inr rfl), hR.2⟩
                  refine Reg.Steps.cons (k' := 22) rfl ?_ ?_
                  · intro D vals a W hR hd hde ev K' hK
                    have d20 := Reg.dep hde 20 rfl
                    have x144 : a.tmps[144]? = some (.pointer (some ⟨PB, 3, none⟩)) := ev.got hR.1 20 144 _ rfl rfl d20
                    have dA := Reg.dep hde 15 rfl
                    have dL := Reg.dep hde 12 rfl
                    have h := hR.2.1
                    rw [hd, dA] at h
                    have xA : a.tmps[140]? = some _ := ev.done 15 140 rfl dA
                    obtain ⟨A9, c9, e9, -⟩ := Sl.of_own (show W.ownsRow w.heap.size 52 3 (vals 15) (n1 + 1) _ from h.ob)
                    rw [e9] at xA
                    have q0 := h.pb.cell 3
                    have f0 := h.pb.frozen 3
                    have HM := Lib.hid (m24_bt h)
                    have HR1 := Lib.hid hR.1
                    have HKL := Lib.hid hR.2.2
                    have HE9 := Lib.hid e9
                    simp only [List.getElem?_toArray, List.getElem?_cons_zero, List.getElem?_cons_succ] at q0
                    clear h hR hde ev hd e9
                    go_simp
                    rw [← HE9.out]
                    refine hK undef _ ⟨HR1.out.step (.inl rfl), ?_, ?_⟩
                    · show M24 w.heap.size V2 _ PB P Q sl A1 c1 B1 d1 n1 sp (D 7) (D 8) (D 18) (D 14) (D 15) true (vals 7) (vals 8) (vals 14) (vals 15)
                      rw [dA]
                      exact HM.out
                    · exact ⟨HKL.out.1, fun h5 => absurd (show D 12 = false from h5) (by rw [dL]; simp)⟩
                  exact Reg.Steps.nil
                · intro D vals W2 hD hR
                  have hm := hR.2.1
                  rw [hD 7 (by decide), hD 8 (by decide), hD 18 (by decide), hD 14 (by decide), hD 15 (by decide), hD 21 (by decide)] at hm
                  clear hR hD
                  obtain ⟨K', A', c', B', d', hps', hap'⟩ := PS.grow (s := sp) HP4.out HN1.out HAP1.out HBU2.out (by rw [HSP.out]; exact HA3.out) (by rw [HSP.out]; exact HB3.out)
                    (by rw [HSP.out]; intro ad h0 e; rcases e with e | e; exact HA2.out ad h0 e; exact HB2.out ad h0 e)
                    (by rw [HSP.out]; exact ⟨S, Later.refl S, rfl, HXM'.out.symm, HXX.out.symm, HP4.out.ok⟩) hm
                  have HP7 := Lib.hid hps'
                  have HAP7 := Lib.hid hap'
                  clear hps' hap' hm
                  simp only [Reg.fin, Act.put, List.setIfInBounds_toArray, List.set_cons_zero, List.set_cons_succ]
                  generalize vals 0 = z0; generalize vals 1 = z1; generalize vals 2 = z2; generalize vals 3 = z3; generalize vals 4 = z4; generalize vals 5 = z5; generalize vals 6 = z6; generalize vals 7 = z7; generalize vals 8 = z8; generalize vals 9 = z9; generalize vals 10 = z10; generalize vals 11 = z11; generalize vals 12 = z12; generalize vals 13 = z13; generalize vals 14 = z14; generalize vals 15 = z15; generalize vals 16 = z16; generalize vals 17 = z17; generalize vals 18 = z18; generalize vals 19 = z19; generalize vals 20 = z20; generalize vals 21 = z21
                  clear vals
                  go_wp2_with fail
                  go_roundw
                  case rel => exact ⟨k + 1, by omega, by go_num, K', S, sl ++ [sp], A', c', B', d', HP7.out, by have := HN1.out; rw [List.length_append]; show sl.length + 1 ≤ k + 1; omega, by have := HN1.out; rw [List.length_append]; show sl.length + 1 ≤ 40; omega, by have := HAP7.out; rw [show (sl ++ [sp]).length = n1 + 1 by rw [List.length_append, HN1.out]; rfl]; exact this, fun s hs => by
                    rcases List.mem_append.1 hs with hs | hs
                    · exact HOWN.out s hs
                    · cases List.mem_singleton.1 hs; rw [HSP.out]; exact hy40⟩
                  case measure => simp [intOf]; omega
        · rcases h with rfl | rfl
          all_goals
            by_cases hfu : 1 + S.length ≤ 1099511627776
            · have HE := Lib.hid (later_snoc S)
              have HFU := Lib.hid hfu
              clear hfu
              go_wp2_with fail
              refine (ap_begin HP3.out.ap HFU.out).mono ?_
              rintro e w6 ⟨rfl, ha6, hk6⟩
              have p0' := (hk6.blk HP3.out.pb HP3.out.kPB).cell 0
              have p1' := (hk6.blk HP3.out.pb HP3.out.kPB).cell 1
              have HA6 := Lib.hid ha6
              have HK6 := Lib.hid hk6
              clear ha6 hk6
              go_wp2_with fail
              refine (ap_rbegin HA6.out HFU.out).mono ?_
              rintro e w7 ⟨rfl, ha7, hk7⟩
              have HP7 : Hid (PS w w7 K PB P Q (S ++ [1]) sl A1 c1 B1 d1) := Lib.hid (HP3.out.goes ha7 (fun g hg => (hk7 g hg).trans (HK6.out g hg)) (st_ok_snoc HP3.out.ok) HE.out)
              clear ha7 hk7 p0 p1 p0' p1'
              go_wp2_with fail
              go_roundw
              case rel => exact ⟨k + 1, by omega, by go_num, K, _, sl, A1, c1, B1, d1, HP7.out, by omega, by omega, HAP.out, HOWN.out⟩
              case measure => simp [intOf]; omega
            · have HFE : Hid (1 + S.length = 1099511627777) := Lib.hid (by have := HP3.out.ap.top; omega)
              clear hfu
              go_wp2_with fail
              refine (ap_full HP3.out.ap HFE.out).mono ?_
              rintro e w6 ⟨rfl, rfl⟩
              go_wp2_with fail
              refine (ap_rfull HP3.out.ap HFE.out).mono ?_
              rintro e w7 ⟨rfl, m7, hw7⟩
              have HP7 : Hid (PS w w7 K PB P Q S sl A1 c1 B1 d1) := Lib.hid (by
                rw [hw7]
                exact HP3.out.goes (HP3.out.ap.drewN m7) (fun g hg => rfl) HP3.out.ok (Later.refl _))
              clear hw7 p0 p1
              go_wp2_with fail
              go_roundw
              case rel => exact ⟨k + 1, by omega, by go_num, K, _, sl, A1, c1, B1, d1, HP7.out, by omega, by omega, HAP.out, HOWN.out⟩
              case measure => simp [intOf]; omega
    · obtain rfl : k = n := by omega
      go_wp2_with fail
      go_ret2
      exact ⟨K, PB, P, Q, S, sl, A1, c1, B1, d1, rfl, HPS.out, hl40, HOWN.out⟩
theorem play_any (w : World) (l : List O10) (A : Option Addr) (n c : Nat) (most : Nat) (hm : most ≤ 40) (hl : l.length = n) (hs : Sl w w.heap.size 2 A n c (o10_s l)) (hok : ∀ o ∈ l, o.ok) :
    Calls Try.prog 13 #[.slice A n c, .int .i64 (most : Int)] w (PlayP w) :=
  (play_anyB w l A n c most hm hl hs hok).mono fun e w' ⟨K, PB, P, Q, S, l, A, c, B, d, h1, h2, h3, _⟩ => ⟨K, PB, P, Q, S, l, A, c, B, d, h1, h2, h3⟩
end Go.Proofs.Ytnpmjljpaaaljaa.Clg
