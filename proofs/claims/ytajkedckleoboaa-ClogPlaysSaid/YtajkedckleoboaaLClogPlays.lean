/- ClogPlays: its walk. -/
import Derived.Test.YtajkedckleoboaaClogQ
namespace Go.Proofs.Ytajkedckleoboaa.Clg
open Go.ChangeMaps Go.MapKept Go.RowKit Go.Proofs.Ytajkedckleoboaa.Nums Go.Proofs.Ytajkedckleoboaa.Mem
set_option linter.unusedVariables false
set_option linter.unusedSimpArgs false
set_option maxRecDepth 100000
attribute [local irreducible] wpQuiet
theorem nil_slu (w : World) : SlU w none 0 [] := ⟨rfl, Nat.le_refl _, by unfold maxLen; omega, fun _ => rfl, fun h => absurd h (by simp)⟩
theorem bel_drewN {B : Nat} {w w' : World} (h : Below B w w') (m : Nat) : Below B w (w'.drewN m) := ⟨h.os, h.tape, h.output, h.size, h.block⟩
theorem newU_slu {w w' : World} {R : List Nat} {e : Ending} (h : NewU w R e w') : ∃ A c, e = .returned (.slice A R.length c) ∧ SlU w' A c R ∧ Below w.heap.size w w' := by
  obtain ⟨A, c, rfl, ho, hb⟩ := h
  obtain ⟨A', c', e, hs⟩ := Sl.of_own ho
  injection e with e1 _ e2
  subst e1 e2
  exact ⟨A, c, rfl, hs, hb⟩
theorem SlU.below {w w' : World} {A : Option Addr} {c : Nat} {R : List Nat} (h : SlU w A c R) (hb : Below w.heap.size w w') : SlU w' A c R := Sl.on h hb
theorem mod64_cast (x : Nat) : ((x : Int) % 64) = ((x % 64 : Nat) : Int) := by omega

set_option maxHeartbeats 8000000 in
theorem plays_bad (w : World) (b0 : Bool) (f : Nat) (hf : f = 0 ∨ 1099511627776 < f) (hf64 : f < 18446744073709551616) (l : List O9) (A : Option Addr) (n c : Nat) (hl : l.length = n) (hs : Sl w w.heap.size 3 A n c (o9_s l)) (hok : ∀ o ∈ l, o.ok) :
    Calls Try.prog 3 #[.bool b0, .int .u64 (f : Int), .slice A n c] w fun e w' => e = .returned (.bool true) ∧ Below w.heap.size w w' := by
  have HS := Lib.hid hs
  have HL := Lib.hid hl
  have HOK := Lib.hid hok
  have hcap := hs.cap
  have hle := hs.le
  unfold maxLen at hcap
  clear hs hl hok
  have hf0 : (f : Int) < 18446744073709551616 := by omega
  have CN := Lib.hid (fun W => new_bad W (f : Int) (by omega))
  have CR := Lib.hid (fun W => rnew_bad W (f : Int) (by omega) (by omega))
  clear hf
  cases b0
  all_goals
    go_enter Try.func3, Try.ntmps3
    go_wp2_with fail
    refine (awake_any _).mono ?_
    rintro e w1 ⟨rfl, hb1⟩
    have HB2 := Lib.hid hb1
    clear hb1
    go_wp2_with fail
    refine (CN.out _).mono ?_
    rintro e w2 ⟨rfl, rfl⟩
    go_wp2_with fail
    refine (CR.out _).mono ?_
    rintro e w2 ⟨rfl, rfl⟩
    go_wp2_with fail
    go_loopw [45] (fun i wr => ∃ k : Nat, k ≤ n ∧ i = .int .i64 k ∧ Below w.heap.size w wr) (fun i _ => n - (intOf i).toNat)
    case atStart => exact ⟨0, by omega, rfl, HB2.out⟩
    case round =>
      obtain ⟨k, hk, rfl, hb⟩ := hrel
      have HB := Lib.hid hb
      clear hb HB2
      by_cases hlt : k < n
      · obtain ⟨o, ho⟩ : ∃ o, l[k]? = some o := ⟨_, List.getElem?_eq_getElem (by rw [HL.out]; exact hlt)⟩
        obtain ⟨ad, rfl, x0, x1, x2⟩ := o9_cells HS.out HB.out ho HL.out
        obtain ⟨hd, hx⟩ := HOK.out o (List.mem_of_getElem? ho)
        obtain ⟨d, x, b⟩ := o
        have hd : d < 256 := hd
        have hx : x < 18446744073709551616 := hx
        have hlt' : (k : Int) < n := by omega
        have HB3 : Hid (Below w.heap.size w (wr.alloc (.cells #[.int .u8 (d : Int), .int .u64 (x : Int), .bool b] 33))) := Lib.hid (bel_trans HB.out (bel_alloc wr _))
        clear ho
        by_cases h60 : 60 ≤ k
        · have h60' : (60 : Int) ≤ k := by omega
          have HX := HB3
          go_wp2_with fail
          go_loopw [127] (fun i wr => ∃ j : Nat, j ≤ 62 ∧ i = .int .u64 j ∧ Below w.heap.size w wr) (fun i _ => 62 - (intOf i).toNat)
          case atStart => exact ⟨0, by omega, rfl, HX.out⟩
          case round =>
            obtain ⟨j, hj, rfl, hbj⟩ := hrel
            have HBJ := Lib.hid hbj
            clear hbj
            by_cases hlj : j < 62
            · have hlj' : (j : Int) < 62 := by omega
              go_wp2_with fail
              refine (state_nil _ _).mono ?_
              rintro e w8 ⟨rfl, rfl⟩
              go_wp2_with fail
              refine (rstate_nil _ _).mono ?_
              rintro e w8 ⟨rfl, m8, hw8⟩
              have HB8 : Hid (Below w.heap.size w w8) := Lib.hid (by rw [hw8]; exact bel_drewN HBJ.out _)
              clear hw8
              go_wp2_with fail
              go_roundw
              case rel => exact ⟨j + 1, by omega, by go_num, HB8.out⟩
              case measure => simp [intOf]; omega
            · obtain rfl : j = 62 := by omega
              go_wp2_with fail
              go_ret
              exact ⟨rfl, HBJ.out⟩
        · have h60' : ¬ (60 : Int) ≤ k := by omega
          obtain ⟨q, hq⟩ : ∃ q : Nat, d % 5 = q := ⟨_, rfl⟩
          have hq' : (d : Int) % 5 = q := by omega
          have hd0 : (d : Int) < 256 := by omega
          have hx0 : (x : Int) < 18446744073709551616 := by omega
          have hq5 : q < 5 := by omega
          clear hq
          rcases (show q = 3 ∨ q = 4 ∨ ((q : Int) == 3) = false ∧ ((q : Int) == 4) = false by
            rcases (show q = 3 ∨ q = 4 ∨ q < 3 by omega) with h | h | h
            · exact .inl h
            · exact .inr (.inl h)
            · exact .inr (.inr ⟨by rw [beq_eq_false_iff_ne]; omega, by rw [beq_eq_false_iff_ne]; omega⟩)) with rfl | rfl | ⟨hq3, hq4⟩
          · cases b
            all_goals
              go_wp2_with fail
              refine (commit_nil _ _).mono ?_
              rintro e w4 ⟨rfl, rfl⟩
              go_wp2_with fail
              refine (rend_nil _ _ _).mono ?_
              rintro e w4 ⟨rfl, m4, hw4⟩
              have HB4 : Hid (Below w.heap.size w w4) := Lib.hid (by rw [hw4]; exact bel_drewN HB3.out _)
              clear hw4

              go_wp2_with fail
              refine (state_nil _ _).mono ?_
              rintro e w5 ⟨rfl, rfl⟩
              go_wp2_with fail
              refine (rstate_nil _ _).mono ?_
              rintro e w5 ⟨rfl, m5, hw5⟩
              have HB5 : Hid (Below w.heap.size w w5) := Lib.hid (by rw [hw5]; exact bel_drewN HB4.out _)
              clear hw5
              go_wp2_with fail
              refine (next_nil _).mono ?_
              rintro e w6 ⟨rfl, rfl⟩
              go_wp2_with fail
              refine (rnext_nil _).mono ?_
              rintro e w6 ⟨rfl, rfl⟩
              go_wp2_with fail
              refine (all_nil _).mono ?_
              intro e w6 h6
              obtain ⟨A6, c6, rfl, hs6, hb6⟩ := newU_slu h6
              have HS6 := Lib.hid hs6
              have HB6 : Hid (Below w.heap.size w w6) := Lib.hid (HB5.out.trans (hb6.mono HB5.out.size))
              clear hs6 hb6 h6
              go_wp2_with fail
              refine (rall_nil _).mono ?_
              intro e w7 h7
              obtain ⟨A7, c7, rfl, hs7, hb7⟩ := newU_slu h7
              have CS := Lib.hid (same_any (HS6.out.below hb7) hs7)
              have HB7 := Lib.hid (HB6.out.trans (hb7.mono HB6.out.size))
              clear hs7 hb7 h7
              go_wp2_with fail
              refine CS.out.mono ?_
              rintro e w8 ⟨rfl, m8, hw8⟩
              have HB8 : Hid (Below w.heap.size w w8) := Lib.hid (by rw [hw8]; exact bel_drewN HB7.out _)
              clear hw8
              have hsb : sameB [] [] = true := rfl
              rw [hsb]
              clear hsb
              go_wp2_with fail
              go_roundw
              case rel => exact ⟨k + 1, by omega, by go_num, HB8.out⟩
              case measure => simp [intOf]; omega
          · cases b
            all_goals
              go_wp2_with fail
              refine (abort_nil _ _).mono ?_
              rintro e w4 ⟨rfl, rfl⟩
              go_wp2_with fail
              refine (rend_nil _ _ _).mono ?_
              rintro e w4 ⟨rfl, m4, hw4⟩
              have HB4 : Hid (Below w.heap.size w w4) := Lib.hid (by rw [hw4]; exact bel_drewN HB3.out _)
              clear hw4

              go_wp2_with fail
              refine (state_nil _ _).mono ?_
              rintro e w5 ⟨rfl, rfl⟩
              go_wp2_with fail
              refine (rstate_nil _ _).mono ?_
              rintro e w5 ⟨rfl, m5, hw5⟩
              have HB5 : Hid (Below w.heap.size w w5) := Lib.hid (by rw [hw5]; exact bel_drewN HB4.out _)
              clear hw5
              go_wp2_with fail
              refine (next_nil _).mono ?_
              rintro e w6 ⟨rfl, rfl⟩
              go_wp2_with fail
              refine (rnext_nil _).mono ?_
              rintro e w6 ⟨rfl, rfl⟩
              go_wp2_with fail
              refine (all_nil _).mono ?_
              intro e w6 h6
              obtain ⟨A6, c6, rfl, hs6, hb6⟩ := newU_slu h6
              have HS6 := Lib.hid hs6
              have HB6 : Hid (Below w.heap.size w w6) := Lib.hid (HB5.out.trans (hb6.mono HB5.out.size))
              clear hs6 hb6 h6
              go_wp2_with fail
              refine (rall_nil _).mono ?_
              intro e w7 h7
              obtain ⟨A7, c7, rfl, hs7, hb7⟩ := newU_slu h7
              have CS := Lib.hid (same_any (HS6.out.below hb7) hs7)
              have HB7 := Lib.hid (HB6.out.trans (hb7.mono HB6.out.size))
              clear hs7 hb7 h7
              go_wp2_with fail
              refine CS.out.mono ?_
              rintro e w8 ⟨rfl, m8, hw8⟩
              have HB8 : Hid (Below w.heap.size w w8) := Lib.hid (by rw [hw8]; exact bel_drewN HB7.out _)
              clear hw8
              have hsb : sameB [] [] = true := rfl
              rw [hsb]
              clear hsb
              go_wp2_with fail
              go_roundw
              case rel => exact ⟨k + 1, by omega, by go_num, HB8.out⟩
              case measure => simp [intOf]; omega
          · cases b
            all_goals
              go_wp2_with fail
              refine (begin_nil _).mono ?_
              rintro e w4 ⟨rfl, rfl⟩
              go_wp2_with fail
              refine (rbegin_nil _).mono ?_
              rintro e w4 ⟨rfl, rfl⟩
              have HB4 := HB3

              go_wp2_with fail
              refine (state_nil _ _).mono ?_
              rintro e w5 ⟨rfl, rfl⟩
              go_wp2_with fail
              refine (rstate_nil _ _).mono ?_
              rintro e w5 ⟨rfl, m5, hw5⟩
              have HB5 : Hid (Below w.heap.size w w5) := Lib.hid (by rw [hw5]; exact bel_drewN HB4.out _)
              clear hw5
              go_wp2_with fail
              refine (next_nil _).mono ?_
              rintro e w6 ⟨rfl, rfl⟩
              go_wp2_with fail
              refine (rnext_nil _).mono ?_
              rintro e w6 ⟨rfl, rfl⟩
              go_wp2_with fail
              refine (all_nil _).mono ?_
              intro e w6 h6
              obtain ⟨A6, c6, rfl, hs6, hb6⟩ := newU_slu h6
              have HS6 := Lib.hid hs6
              have HB6 : Hid (Below w.heap.size w w6) := Lib.hid (HB5.out.trans (hb6.mono HB5.out.size))
              clear hs6 hb6 h6
              go_wp2_with fail
              refine (rall_nil _).mono ?_
              intro e w7 h7
              obtain ⟨A7, c7, rfl, hs7, hb7⟩ := newU_slu h7
              have CS := Lib.hid (same_any (HS6.out.below hb7) hs7)
              have HB7 := Lib.hid (HB6.out.trans (hb7.mono HB6.out.size))
              clear hs7 hb7 h7
              go_wp2_with fail
              refine CS.out.mono ?_
              rintro e w8 ⟨rfl, m8, hw8⟩
              have HB8 : Hid (Below w.heap.size w w8) := Lib.hid (by rw [hw8]; exact bel_drewN HB7.out _)
              clear hw8
              have hsb : sameB [] [] = true := rfl
              rw [hsb]
              clear hsb
              go_wp2_with fail
              go_roundw
              case rel => exact ⟨k + 1, by omega, by go_num, HB8.out⟩
              case measure => simp [intOf]; omega
      · obtain rfl : k = n := by omega
        have HX := HB
        go_wp2_with fail
        go_loopw [127] (fun i wr => ∃ j : Nat, j ≤ 62 ∧ i = .int .u64 j ∧ Below w.heap.size w wr) (fun i _ => 62 - (intOf i).toNat)
        case atStart => exact ⟨0, by omega, rfl, HX.out⟩
        case round =>
          obtain ⟨j, hj, rfl, hbj⟩ := hrel
          have HBJ := Lib.hid hbj
          clear hbj
          by_cases hlj : j < 62
          · have hlj' : (j : Int) < 62 := by omega
            go_wp2_with fail
            refine (state_nil _ _).mono ?_
            rintro e w8 ⟨rfl, rfl⟩
            go_wp2_with fail
            refine (rstate_nil _ _).mono ?_
            rintro e w8 ⟨rfl, m8, hw8⟩
            have HB8 : Hid (Below w.heap.size w w8) := Lib.hid (by rw [hw8]; exact bel_drewN HBJ.out _)
            clear hw8
            go_wp2_with fail
            go_roundw
            case rel => exact ⟨j + 1, by omega, by go_num, HB8.out⟩
            case measure => simp [intOf]; omega
          · obtain rfl : j = 62 := by omega
            go_wp2_with fail
            go_ret
            exact ⟨rfl, HBJ.out⟩

set_option maxHeartbeats 8000000 in
theorem plays_nil (w : World) (f : Nat) (hf1 : 1 ≤ f) (hf2 : f ≤ 1099511627776) (l : List O9) (A : Option Addr) (n c : Nat) (hl : l.length = n) (hs : Sl w w.heap.size 3 A n c (o9_s l)) (hok : ∀ o ∈ l, o.ok) :
    Calls Try.prog 3 #[.bool true, .int .u64 (f : Int), .slice A n c] w fun e w' => e = .returned (.bool true) ∧ Below w.heap.size w w' := by
  have HS := Lib.hid hs
  have HL := Lib.hid hl
  have HOK := Lib.hid hok
  have hcap := hs.cap
  have hle := hs.le
  unfold maxLen at hcap
  clear hs hl hok
  have hf0 : (f : Int) < 18446744073709551616 := by omega
  have CN := Lib.hid (fun W (h : Below w.heap.size w W) => al_new W f hf1 hf2 h)
  have CR := Lib.hid (fun W P (h : AL w W No P f []) => ap_new h hf1 hf2)
  clear hf1 hf2
  go_enter Try.func3, Try.ntmps3
  go_wp2_with fail
  refine (awake_any _).mono ?_
  rintro e w1 ⟨rfl, hb1⟩
  have HB1 := Lib.hid hb1
  clear hb1
  go_wp2_with fail
  refine (CN.out _ HB1.out).mono ?_
  rintro e w2 ⟨P, rfl, ha2, _, _⟩
  have HA2 := Lib.hid ha2
  clear ha2
  go_wp2_with fail
  refine (CR.out _ _ HA2.out).mono ?_
  rintro e w3 ⟨rfl, ha3, _⟩
  have HB2 := Lib.hid ha3.bel
  clear ha3 HA2 HB1
  go_wp2_with fail
  go_loopw [45] (fun i wr => ∃ k : Nat, k ≤ n ∧ i = .int .i64 k ∧ Below w.heap.size w wr) (fun i _ => n - (intOf i).toNat)
  case atStart => exact ⟨0, by omega, rfl, HB2.out⟩
  case round =>
    obtain ⟨k, hk, rfl, hb⟩ := hrel
    have HB := Lib.hid hb
    clear hb HB2
    by_cases hlt : k < n
    · obtain ⟨o, ho⟩ : ∃ o, l[k]? = some o := ⟨_, List.getElem?_eq_getElem (by rw [HL.out]; exact hlt)⟩
      obtain ⟨ad, rfl, x0, x1, x2⟩ := o9_cells HS.out HB.out ho HL.out
      obtain ⟨hd, hx⟩ := HOK.out o (List.mem_of_getElem? ho)
      obtain ⟨d, x, b⟩ := o
      have hd : d < 256 := hd
      have hx : x < 18446744073709551616 := hx
      have hlt' : (k : Int) < n := by omega
      have HB3 : Hid (Below w.heap.size w (wr.alloc (.cells #[.int .u8 (d : Int), .int .u64 (x : Int), .bool b] 33))) := Lib.hid (bel_trans HB.out (bel_alloc wr _))
      clear ho
      by_cases h60 : 60 ≤ k
      · have h60' : (60 : Int) ≤ k := by omega
        have HX := HB3
        go_wp2_with fail
        go_loopw [127] (fun i wr => ∃ j : Nat, j ≤ 62 ∧ i = .int .u64 j ∧ Below w.heap.size w wr) (fun i _ => 62 - (intOf i).toNat)
        case atStart => exact ⟨0, by omega, rfl, HX.out⟩
        case round =>
          obtain ⟨j, hj, rfl, hbj⟩ := hrel
          have HBJ := Lib.hid hbj
          clear hbj
          by_cases hlj : j < 62
          · have hlj' : (j : Int) < 62 := by omega
            go_wp2_with fail
            refine (state_nil _ _).mono ?_
            rintro e w8 ⟨rfl, rfl⟩
            go_wp2_with fail
            refine (rstate_nil _ _).mono ?_
            rintro e w8 ⟨rfl, m8, hw8⟩
            have HB8 : Hid (Below w.heap.size w w8) := Lib.hid (by rw [hw8]; exact bel_drewN HBJ.out _)
            clear hw8
            go_wp2_with fail
            go_roundw
            case rel => exact ⟨j + 1, by omega, by go_num, HB8.out⟩
            case measure => simp [intOf]; omega
          · obtain rfl : j = 62 := by omega
            go_wp2_with fail
            go_ret
            exact ⟨rfl, HBJ.out⟩
      · have h60' : ¬ (60 : Int) ≤ k := by omega
        obtain ⟨q, hq⟩ : ∃ q : Nat, d % 5 = q := ⟨_, rfl⟩
        have hq' : (d : Int) % 5 = q := by omega
        have hd0 : (d : Int) < 256 := by omega
        have hx0 : (x : Int) < 18446744073709551616 := by omega
        have hq5 : q < 5 := by omega
        clear hq
        rcases (show q = 3 ∨ q = 4 ∨ ((q : Int) == 3) = false ∧ ((q : Int) == 4) = false by
          rcases (show q = 3 ∨ q = 4 ∨ q < 3 by omega) with h | h | h
          · exact .inl h
          · exact .inr (.inl h)
          · exact .inr (.inr ⟨by rw [beq_eq_false_iff_ne]; omega, by rw [beq_eq_false_iff_ne]; omega⟩)) with rfl | rfl | ⟨hq3, hq4⟩
        · cases b
          all_goals
            go_wp2_with fail
            refine (commit_nil _ _).mono ?_
            rintro e w4 ⟨rfl, rfl⟩
            go_wp2_with fail
            refine (rend_nil _ _ _).mono ?_
            rintro e w4 ⟨rfl, m4, hw4⟩
            have HB4 : Hid (Below w.heap.size w w4) := Lib.hid (by rw [hw4]; exact bel_drewN HB3.out _)
            clear hw4

            go_wp2_with fail
            refine (state_nil _ _).mono ?_
            rintro e w5 ⟨rfl, rfl⟩
            go_wp2_with fail
            refine (rstate_nil _ _).mono ?_
            rintro e w5 ⟨rfl, m5, hw5⟩
            have HB5 : Hid (Below w.heap.size w w5) := Lib.hid (by rw [hw5]; exact bel_drewN HB4.out _)
            clear hw5
            go_wp2_with fail
            refine (next_nil _).mono ?_
            rintro e w6 ⟨rfl, rfl⟩
            go_wp2_with fail
            refine (rnext_nil _).mono ?_
            rintro e w6 ⟨rfl, rfl⟩
            go_wp2_with fail
            refine (all_nil _).mono ?_
            intro e w6 h6
            obtain ⟨A6, c6, rfl, hs6, hb6⟩ := newU_slu h6
            have HS6 := Lib.hid hs6
            have HB6 : Hid (Below w.heap.size w w6) := Lib.hid (HB5.out.trans (hb6.mono HB5.out.size))
            clear hs6 hb6 h6
            go_wp2_with fail
            refine (rall_nil _).mono ?_
            intro e w7 h7
            obtain ⟨A7, c7, rfl, hs7, hb7⟩ := newU_slu h7
            have CS := Lib.hid (same_any (HS6.out.below hb7) hs7)
            have HB7 := Lib.hid (HB6.out.trans (hb7.mono HB6.out.size))
            clear hs7 hb7 h7
            go_wp2_with fail
            refine CS.out.mono ?_
            rintro e w8 ⟨rfl, m8, hw8⟩
            have HB8 : Hid (Below w.heap.size w w8) := Lib.hid (by rw [hw8]; exact bel_drewN HB7.out _)
            clear hw8
            have hsb : sameB [] [] = true := rfl
            rw [hsb]
            clear hsb
            go_wp2_with fail
            go_roundw
            case rel => exact ⟨k + 1, by omega, by go_num, HB8.out⟩
            case measure => simp [intOf]; omega
        · cases b
          all_goals
            go_wp2_with fail
            refine (abort_nil _ _).mono ?_
            rintro e w4 ⟨rfl, rfl⟩
            go_wp2_with fail
            refine (rend_nil _ _ _).mono ?_
            rintro e w4 ⟨rfl, m4, hw4⟩
            have HB4 : Hid (Below w.heap.size w w4) := Lib.hid (by rw [hw4]; exact bel_drewN HB3.out _)
            clear hw4

            go_wp2_with fail
            refine (state_nil _ _).mono ?_
            rintro e w5 ⟨rfl, rfl⟩
            go_wp2_with fail
            refine (rstate_nil _ _).mono ?_
            rintro e w5 ⟨rfl, m5, hw5⟩
            have HB5 : Hid (Below w.heap.size w w5) := Lib.hid (by rw [hw5]; exact bel_drewN HB4.out _)
            clear hw5
            go_wp2_with fail
            refine (next_nil _).mono ?_
            rintro e w6 ⟨rfl, rfl⟩
            go_wp2_with fail
            refine (rnext_nil _).mono ?_
            rintro e w6 ⟨rfl, rfl⟩
            go_wp2_with fail
            refine (all_nil _).mono ?_
            intro e w6 h6
            obtain ⟨A6, c6, rfl, hs6, hb6⟩ := newU_slu h6
            have HS6 := Lib.hid hs6
            have HB6 : Hid (Below w.heap.size w w6) := Lib.hid (HB5.out.trans (hb6.mono HB5.out.size))
            clear hs6 hb6 h6
            go_wp2_with fail
            refine (rall_nil _).mono ?_
            intro e w7 h7
            obtain ⟨A7, c7, rfl, hs7, hb7⟩ := newU_slu h7
            have CS := Lib.hid (same_any (HS6.out.below hb7) hs7)
            have HB7 := Lib.hid (HB6.out.trans (hb7.mono HB6.out.size))
            clear hs7 hb7 h7
            go_wp2_with fail
            refine CS.out.mono ?_
            rintro e w8 ⟨rfl, m8, hw8⟩
            have HB8 : Hid (Below w.heap.size w w8) := Lib.hid (by rw [hw8]; exact bel_drewN HB7.out _)
            clear hw8
            have hsb : sameB [] [] = true := rfl
            rw [hsb]
            clear hsb
            go_wp2_with fail
            go_roundw
            case rel => exact ⟨k + 1, by omega, by go_num, HB8.out⟩
            case measure => simp [intOf]; omega
        · cases b
          all_goals
            go_wp2_with fail
            refine (begin_nil _).mono ?_
            rintro e w4 ⟨rfl, rfl⟩
            go_wp2_with fail
            refine (rbegin_nil _).mono ?_
            rintro e w4 ⟨rfl, rfl⟩
            have HB4 := HB3

            go_wp2_with fail
            refine (state_nil _ _).mono ?_
            rintro e w5 ⟨rfl, rfl⟩
            go_wp2_with fail
            refine (rstate_nil _ _).mono ?_
            rintro e w5 ⟨rfl, m5, hw5⟩
            have HB5 : Hid (Below w.heap.size w w5) := Lib.hid (by rw [hw5]; exact bel_drewN HB4.out _)
            clear hw5
            go_wp2_with fail
            refine (next_nil _).mono ?_
            rintro e w6 ⟨rfl, rfl⟩
            go_wp2_with fail
            refine (rnext_nil _).mono ?_
            rintro e w6 ⟨rfl, rfl⟩
            go_wp2_with fail
            refine (all_nil _).mono ?_
            intro e w6 h6
            obtain ⟨A6, c6, rfl, hs6, hb6⟩ := newU_slu h6
            have HS6 := Lib.hid hs6
            have HB6 : Hid (Below w.heap.size w w6) := Lib.hid (HB5.out.trans (hb6.mono HB5.out.size))
            clear hs6 hb6 h6
            go_wp2_with fail
            refine (rall_nil _).mono ?_
            intro e w7 h7
            obtain ⟨A7, c7, rfl, hs7, hb7⟩ := newU_slu h7
            have CS := Lib.hid (same_any (HS6.out.below hb7) hs7)
            have HB7 := Lib.hid (HB6.out.trans (hb7.mono HB6.out.size))
            clear hs7 hb7 h7
            go_wp2_with fail
            refine CS.out.mono ?_
            rintro e w8 ⟨rfl, m8, hw8⟩
            have HB8 : Hid (Below w.heap.size w w8) := Lib.hid (by rw [hw8]; exact bel_drewN HB7.out _)
            clear hw8
            have hsb : sameB [] [] = true := rfl
            rw [hsb]
            clear hsb
            go_wp2_with fail
            go_roundw
            case rel => exact ⟨k + 1, by omega, by go_num, HB8.out⟩
            case measure => simp [intOf]; omega
    · obtain rfl : k = n := by omega
      have HX := HB
      go_wp2_with fail
      go_loopw [127] (fun i wr => ∃ j : Nat, j ≤ 62 ∧ i = .int .u64 j ∧ Below w.heap.size w wr) (fun i _ => 62 - (intOf i).toNat)
      case atStart => exact ⟨0, by omega, rfl, HX.out⟩
      case round =>
        obtain ⟨j, hj, rfl, hbj⟩ := hrel
        have HBJ := Lib.hid hbj
        clear hbj
        by_cases hlj : j < 62
        · have hlj' : (j : Int) < 62 := by omega
          go_wp2_with fail
          refine (state_nil _ _).mono ?_
          rintro e w8 ⟨rfl, rfl⟩
          go_wp2_with fail
          refine (rstate_nil _ _).mono ?_
          rintro e w8 ⟨rfl, m8, hw8⟩
          have HB8 : Hid (Below w.heap.size w w8) := Lib.hid (by rw [hw8]; exact bel_drewN HBJ.out _)
          clear hw8
          go_wp2_with fail
          go_roundw
          case rel => exact ⟨j + 1, by omega, by go_num, HB8.out⟩
          case measure => simp [intOf]; omega
        · obtain rfl : j = 62 := by omega
          go_wp2_with fail
          go_ret
          exact ⟨rfl, HBJ.out⟩

set_option maxHeartbeats 8000000 in
theorem plays_good (w : World) (f : Nat) (hf1 : 1 ≤ f) (hf2 : f ≤ 1099511627776) (l : List O9) (A : Option Addr) (n c : Nat) (hl : l.length = n) (hs : Sl w w.heap.size 3 A n c (o9_s l)) (hok : ∀ o ∈ l, o.ok) :
    Calls Try.prog 3 #[.bool false, .int .u64 (f : Int), .slice A n c] w fun e w' => e = .returned (.bool true) ∧ Below w.heap.size w w' := by
  have HS := Lib.hid hs
  have HL := Lib.hid hl
  have HOK := Lib.hid hok
  have hcap := hs.cap
  have hle := hs.le
  unfold maxLen at hcap
  clear hs hl hok
  have hf0 : (f : Int) ≤ 1099511627776 := by omega
  have CN := Lib.hid (fun W (h : Below w.heap.size w W) => al_new W f hf1 hf2 h)
  have CR := Lib.hid (fun W P (h : AL w W No P f []) => ap_new h hf1 hf2)
  clear hf1
  go_enter Try.func3, Try.ntmps3
  go_wp2_with fail
  refine (awake_any _).mono ?_
  rintro e w1 ⟨rfl, hb1⟩
  have HB1 := Lib.hid hb1
  clear hb1
  go_wp2_with fail
  refine (CN.out _ HB1.out).mono ?_
  rintro e w2 ⟨P, rfl, ha2, _, _⟩
  have HA2 := Lib.hid ha2
  clear ha2
  go_wp2_with fail
  refine (CR.out _ _ HA2.out).mono ?_
  rintro e w3 ⟨rfl, ha3, _⟩
  have HA3 := Lib.hid ha3
  clear ha3 HA2 HB1
  generalize w2.heap.size = Q at *
  go_wp2_with fail
  go_loopw [45] (fun i wr => ∃ k : Nat, k ≤ n ∧ i = .int .i64 k ∧ ∃ S, (∀ s ∈ S, 1 ≤ s ∧ s ≤ 3) ∧ AP w wr No P Q f S S) (fun i _ => n - (intOf i).toNat)
  case atStart => exact ⟨0, by omega, rfl, [], (fun s hs => by cases hs), HA3.out⟩
  case round =>
    obtain ⟨k, hk, rfl, S, hSS, ha⟩ := hrel
    have HA := Lib.hid ha
    have HSS := Lib.hid hSS
    clear ha HA3 hSS
    by_cases hlt : k < n
    · obtain ⟨o, ho⟩ : ∃ o, l[k]? = some o := ⟨_, List.getElem?_eq_getElem (by rw [HL.out]; exact hlt)⟩
      obtain ⟨ad, rfl, x0, x1, x2⟩ := o9_cells HS.out HA.out.bel ho HL.out
      obtain ⟨hd, hx⟩ := HOK.out o (List.mem_of_getElem? ho)
      obtain ⟨d, x, b⟩ := o
      have hd : d < 256 := hd
      have hx : x < 18446744073709551616 := hx
      have hlt' : (k : Int) < n := by omega
      have HA3 : Hid (AP w (wr.alloc (.cells #[.int .u8 (d : Int), .int .u64 (x : Int), .bool b] 33)) No P Q f S S) := Lib.hid (HA.out.below (bel_alloc wr _)).1
      clear ho
      by_cases h60 : 60 ≤ k
      · have h60' : (60 : Int) ≤ k := by omega
        have HX := HA3
        go_wp2_with fail
        go_loopw [127] (fun i wr => ∃ j : Nat, j ≤ 62 ∧ i = .int .u64 j ∧ AP w wr No P Q f S S) (fun i _ => 62 - (intOf i).toNat)
        case atStart => exact ⟨0, by omega, rfl, HX.out⟩
        case round =>
          obtain ⟨j, hj, rfl, haj⟩ := hrel
          have HAJ := Lib.hid haj
          clear haj
          by_cases hlj : j < 62
          · have hlj' : (j : Int) < 62 := by omega
            have CS := ap_state HAJ.out HSS.out (x := f + j) (by omega)
            rw [Int.natCast_add] at CS
            have CS := Lib.hid CS
            go_wp2_with fail
            refine CS.out.mono ?_
            rintro e w8 ⟨rfl, ha8, _, _⟩
            have HA8 := Lib.hid ha8
            have CR := ap_rstate ha8 (x := f + j) (by omega)
            rw [Int.natCast_add] at CR
            have CR := Lib.hid CR
            clear ha8
            go_wp2_with fail
            refine CR.out.mono ?_
            rintro e w9 ⟨rfl, m8, hw8⟩
            have HA9 : Hid (AP w w9 No P Q f _ _) := Lib.hid (by rw [hw8]; exact HA8.out.drewN m8)
            clear hw8
            go_wp2_with fail
            go_roundw
            case rel => exact ⟨j + 1, by omega, by go_num, HA9.out⟩
            case measure => simp [intOf]; omega
          · obtain rfl : j = 62 := by omega
            have HBJ := Lib.hid HAJ.out.bel
            go_wp2_with fail
            go_ret
            exact ⟨rfl, HBJ.out⟩
      · have h60' : ¬ (60 : Int) ≤ k := by omega
        obtain ⟨q, hq⟩ : ∃ q : Nat, d % 5 = q := ⟨_, rfl⟩
        have hq' : (d : Int) % 5 = q := by omega
        have hd0 : (d : Int) < 256 := by omega
        have hx0 : (x : Int) < 18446744073709551616 := by omega
        have hq5 : q < 5 := by omega
        clear hq
        rcases (show q = 3 ∨ q = 4 ∨ ((q : Int) == 3) = false ∧ ((q : Int) == 4) = false by
          rcases (show q = 3 ∨ q = 4 ∨ q < 3 by omega) with h | h | h
          · exact .inl h
          · exact .inr (.inl h)
          · exact .inr (.inr ⟨by rw [beq_eq_false_iff_ne]; omega, by rw [beq_eq_false_iff_ne]; omega⟩)) with rfl | rfl | ⟨hq3, hq4⟩
        · cases b
          ·
            obtain ⟨y, hy⟩ : ∃ y : Nat, x = y := ⟨_, rfl⟩
            subst hy
            obtain ⟨y, rfl⟩ : ∃ y, x = y := ⟨_, rfl⟩
            have HY : Hid (x < 18446744073709551616) := Lib.hid hx
            go_wp2_with fail
            refine (ap_commit HA3.out x).mono ?_
            rintro e w4 ⟨rfl, ha4, _⟩
            have HA4 := Lib.hid ha4
            clear ha4
            go_wp2_with fail
            refine (ap_rend HA4.out HY.out 2).mono ?_
            rintro e w5 ⟨rfl, ha5, _⟩
            have HST0 := Lib.hid (st_ok_end HSS.out f x (t := 2) (by omega))
            obtain ⟨S', hS'⟩ : ∃ S', endS f S x 2 = S' := ⟨_, rfl⟩
            rw [hS'] at ha5 HST0
            have HA5 := Lib.hid ha5
            have HST := HST0
            clear ha5 hS' HA4
            generalize endE f S x = EE

            go_wp2_with fail
            refine (ap_state HA5.out HST.out HY.out).mono ?_
            rintro e w6 ⟨rfl, ha6, _, _⟩
            have HA6 := Lib.hid ha6
            clear ha6
            go_wp2_with fail
            refine (ap_rstate HA6.out HY.out).mono ?_
            rintro e w7 ⟨rfl, m7, hw7⟩
            have HA7 : Hid (AP w w7 No P Q f _ _) := Lib.hid (by rw [hw7]; exact HA6.out.drewN m7)
            clear hw7
            go_wp2_with fail
            refine (ap_next HA7.out).mono ?_
            rintro e w8 ⟨rfl, rfl⟩
            go_wp2_with fail
            refine (ap_rnext HA7.out).mono ?_
            rintro e w8 ⟨rfl, m8, hw8⟩
            have HA8 : Hid (AP w w8 No P Q f _ _) := Lib.hid (by rw [hw8]; exact HA7.out.drewN m8)
            clear hw8
            go_wp2_with fail
            refine (ap_all HA8.out).mono ?_
            rintro e w9 ⟨A9, c9, rfl, hs9, ha9, _, _⟩
            have HS9 := Lib.hid hs9
            have HA9 := Lib.hid ha9
            clear hs9 ha9
            go_wp2_with fail
            refine (ap_rall HA9.out).mono ?_
            rintro e w10 ⟨A10, c10, rfl, hs10, ha10, _, hb10⟩
            have CS := Lib.hid (same_any (HS9.out.below hb10) hs10)
            have HA10 := Lib.hid ha10
            clear hs10 ha10 hb10
            go_wp2_with fail
            refine CS.out.mono ?_
            rintro e w11 ⟨rfl, m11, hw11⟩
            have HA11 : Hid (AP w w11 No P Q f _ _) := Lib.hid (by rw [hw11]; exact HA10.out.drewN m11)
            clear hw11
            have hsb : ∀ R, sameB R R = true := fun R => by unfold sameB; simp
            rw [hsb]
            clear hsb
            go_wp2_with fail
            go_roundw
            case rel => exact ⟨k + 1, by omega, by go_num, S', HST.out, HA11.out⟩
            case measure => simp [intOf]; omega
          ·
            obtain ⟨y, hy⟩ : ∃ y : Nat, y = f + x % 64 := ⟨_, rfl⟩
            have hyz : (f : Int) + (x : Int) % 64 = (y : Int) := by omega
            have HY : Hid (y < 18446744073709551616) := Lib.hid (by omega)
            clear hy
            go_wp2_with fail
            refine (ap_commit HA3.out y).mono ?_
            rintro e w4 ⟨rfl, ha4, _⟩
            have HA4 := Lib.hid ha4
            clear ha4
            go_wp2_with fail
            refine (ap_rend HA4.out HY.out 2).mono ?_
            rintro e w5 ⟨rfl, ha5, _⟩
            have HST0 := Lib.hid (st_ok_end HSS.out f y (t := 2) (by omega))
            obtain ⟨S', hS'⟩ : ∃ S', endS f S y 2 = S' := ⟨_, rfl⟩
            rw [hS'] at ha5 HST0
            have HA5 := Lib.hid ha5
            have HST := HST0
            clear ha5 hS' HA4
            generalize endE f S y = EE

            go_wp2_with fail
            refine (ap_state HA5.out HST.out HY.out).mono ?_
            rintro e w6 ⟨rfl, ha6, _, _⟩
            have HA6 := Lib.hid ha6
            clear ha6
            go_wp2_with fail
            refine (ap_rstate HA6.out HY.out).mono ?_
            rintro e w7 ⟨rfl, m7, hw7⟩
            have HA7 : Hid (AP w w7 No P Q f _ _) := Lib.hid (by rw [hw7]; exact HA6.out.drewN m7)
            clear hw7
            go_wp2_with fail
            refine (ap_next HA7.out).mono ?_
            rintro e w8 ⟨rfl, rfl⟩
            go_wp2_with fail
            refine (ap_rnext HA7.out).mono ?_
            rintro e w8 ⟨rfl, m8, hw8⟩
            have HA8 : Hid (AP w w8 No P Q f _ _) := Lib.hid (by rw [hw8]; exact HA7.out.drewN m8)
            clear hw8
            go_wp2_with fail
            refine (ap_all HA8.out).mono ?_
            rintro e w9 ⟨A9, c9, rfl, hs9, ha9, _, _⟩
            have HS9 := Lib.hid hs9
            have HA9 := Lib.hid ha9
            clear hs9 ha9
            go_wp2_with fail
            refine (ap_rall HA9.out).mono ?_
            rintro e w10 ⟨A10, c10, rfl, hs10, ha10, _, hb10⟩
            have CS := Lib.hid (same_any (HS9.out.below hb10) hs10)
            have HA10 := Lib.hid ha10
            clear hs10 ha10 hb10
            go_wp2_with fail
            refine CS.out.mono ?_
            rintro e w11 ⟨rfl, m11, hw11⟩
            have HA11 : Hid (AP w w11 No P Q f _ _) := Lib.hid (by rw [hw11]; exact HA10.out.drewN m11)
            clear hw11
            have hsb : ∀ R, sameB R R = true := fun R => by unfold sameB; simp
            rw [hsb]
            clear hsb
            go_wp2_with fail
            go_roundw
            case rel => exact ⟨k + 1, by omega, by go_num, S', HST.out, HA11.out⟩
            case measure => simp [intOf]; omega
        · cases b
          ·
            obtain ⟨y, hy⟩ : ∃ y : Nat, x = y := ⟨_, rfl⟩
            subst hy
            obtain ⟨y, rfl⟩ : ∃ y, x = y := ⟨_, rfl⟩
            have HY : Hid (x < 18446744073709551616) := Lib.hid hx
            go_wp2_with fail
            refine (ap_abort HA3.out HY.out).mono ?_
            rintro e w4 ⟨rfl, ha4, _⟩
            have HA4 := Lib.hid ha4
            clear ha4
            go_wp2_with fail
            refine (ap_rend HA4.out HY.out 3).mono ?_
            rintro e w5 ⟨rfl, ha5, _⟩
            have HST0 := Lib.hid (st_ok_end HSS.out f x (t := 3) (by omega))
            obtain ⟨S', hS'⟩ : ∃ S', endS f S x 3 = S' := ⟨_, rfl⟩
            rw [hS'] at ha5 HST0
            have HA5 := Lib.hid ha5
            have HST := HST0
            clear ha5 hS' HA4
            generalize endE f S x = EE

            go_wp2_with fail
            refine (ap_state HA5.out HST.out HY.out).mono ?_
            rintro e w6 ⟨rfl, ha6, _, _⟩
            have HA6 := Lib.hid ha6
            clear ha6
            go_wp2_with fail
            refine (ap_rstate HA6.out HY.out).mono ?_
            rintro e w7 ⟨rfl, m7, hw7⟩
            have HA7 : Hid (AP w w7 No P Q f _ _) := Lib.hid (by rw [hw7]; exact HA6.out.drewN m7)
            clear hw7
            go_wp2_with fail
            refine (ap_next HA7.out).mono ?_
            rintro e w8 ⟨rfl, rfl⟩
            go_wp2_with fail
            refine (ap_rnext HA7.out).mono ?_
            rintro e w8 ⟨rfl, m8, hw8⟩
            have HA8 : Hid (AP w w8 No P Q f _ _) := Lib.hid (by rw [hw8]; exact HA7.out.drewN m8)
            clear hw8
            go_wp2_with fail
            refine (ap_all HA8.out).mono ?_
            rintro e w9 ⟨A9, c9, rfl, hs9, ha9, _, _⟩
            have HS9 := Lib.hid hs9
            have HA9 := Lib.hid ha9
            clear hs9 ha9
            go_wp2_with fail
            refine (ap_rall HA9.out).mono ?_
            rintro e w10 ⟨A10, c10, rfl, hs10, ha10, _, hb10⟩
            have CS := Lib.hid (same_any (HS9.out.below hb10) hs10)
            have HA10 := Lib.hid ha10
            clear hs10 ha10 hb10
            go_wp2_with fail
            refine CS.out.mono ?_
            rintro e w11 ⟨rfl, m11, hw11⟩
            have HA11 : Hid (AP w w11 No P Q f _ _) := Lib.hid (by rw [hw11]; exact HA10.out.drewN m11)
            clear hw11
            have hsb : ∀ R, sameB R R = true := fun R => by unfold sameB; simp
            rw [hsb]
            clear hsb
            go_wp2_with fail
            go_roundw
            case rel => exact ⟨k + 1, by omega, by go_num, S', HST.out, HA11.out⟩
            case measure => simp [intOf]; omega
          ·
            obtain ⟨y, hy⟩ : ∃ y : Nat, y = f + x % 64 := ⟨_, rfl⟩
            have hyz : (f : Int) + (x : Int) % 64 = (y : Int) := by omega
            have HY : Hid (y < 18446744073709551616) := Lib.hid (by omega)
            clear hy
            go_wp2_with fail
            refine (ap_abort HA3.out HY.out).mono ?_
            rintro e w4 ⟨rfl, ha4, _⟩
            have HA4 := Lib.hid ha4
            clear ha4
            go_wp2_with fail
            refine (ap_rend HA4.out HY.out 3).mono ?_
            rintro e w5 ⟨rfl, ha5, _⟩
            have HST0 := Lib.hid (st_ok_end HSS.out f y (t := 3) (by omega))
            obtain ⟨S', hS'⟩ : ∃ S', endS f S y 3 = S' := ⟨_, rfl⟩
            rw [hS'] at ha5 HST0
            have HA5 := Lib.hid ha5
            have HST := HST0
            clear ha5 hS' HA4
            generalize endE f S y = EE

            go_wp2_with fail
            refine (ap_state HA5.out HST.out HY.out).mono ?_
            rintro e w6 ⟨rfl, ha6, _, _⟩
            have HA6 := Lib.hid ha6
            clear ha6
            go_wp2_with fail
            refine (ap_rstate HA6.out HY.out).mono ?_
            rintro e w7 ⟨rfl, m7, hw7⟩
            have HA7 : Hid (AP w w7 No P Q f _ _) := Lib.hid (by rw [hw7]; exact HA6.out.drewN m7)
            clear hw7
            go_wp2_with fail
            refine (ap_next HA7.out).mono ?_
            rintro e w8 ⟨rfl, rfl⟩
            go_wp2_with fail
            refine (ap_rnext HA7.out).mono ?_
            rintro e w8 ⟨rfl, m8, hw8⟩
            have HA8 : Hid (AP w w8 No P Q f _ _) := Lib.hid (by rw [hw8]; exact HA7.out.drewN m8)
            clear hw8
            go_wp2_with fail
            refine (ap_all HA8.out).mono ?_
            rintro e w9 ⟨A9, c9, rfl, hs9, ha9, _, _⟩
            have HS9 := Lib.hid hs9
            have HA9 := Lib.hid ha9
            clear hs9 ha9
            go_wp2_with fail
            refine (ap_rall HA9.out).mono ?_
            rintro e w10 ⟨A10, c10, rfl, hs10, ha10, _, hb10⟩
            have CS := Lib.hid (same_any (HS9.out.below hb10) hs10)
            have HA10 := Lib.hid ha10
            clear hs10 ha10 hb10
            go_wp2_with fail
            refine CS.out.mono ?_
            rintro e w11 ⟨rfl, m11, hw11⟩
            have HA11 : Hid (AP w w11 No P Q f _ _) := Lib.hid (by rw [hw11]; exact HA10.out.drewN m11)
            clear hw11
            have hsb : ∀ R, sameB R R = true := fun R => by unfold sameB; simp
            rw [hsb]
            clear hsb
            go_wp2_with fail
            go_roundw
            case rel => exact ⟨k + 1, by omega, by go_num, S', HST.out, HA11.out⟩
            case measure => simp [intOf]; omega
        · cases b
          ·
            obtain ⟨y, hy⟩ : ∃ y : Nat, x = y := ⟨_, rfl⟩
            subst hy
            obtain ⟨y, rfl⟩ : ∃ y, x = y := ⟨_, rfl⟩
            have HY : Hid (x < 18446744073709551616) := Lib.hid hx
            by_cases hfu : f + S.length ≤ 1099511627776
            ·
              go_wp2_with fail
              refine (ap_begin HA3.out hfu).mono ?_
              rintro e w4 ⟨rfl, ha4, _⟩
              have HA4 := Lib.hid ha4
              clear ha4
              go_wp2_with fail
              refine (ap_rbegin HA4.out hfu).mono ?_
              rintro e w5 ⟨rfl, ha5, _⟩
              have HST := Lib.hid (st_ok_snoc HSS.out)
              obtain ⟨S', hS'⟩ : ∃ S', S ++ [1] = S' := ⟨_, rfl⟩
              rw [hS'] at ha5 HST
              have HA5 := Lib.hid ha5
              clear ha5 hS' HA4 hfu

              go_wp2_with fail
              refine (ap_state HA5.out HST.out HY.out).mono ?_
              rintro e w6 ⟨rfl, ha6, _, _⟩
              have HA6 := Lib.hid ha6
              clear ha6
              go_wp2_with fail
              refine (ap_rstate HA6.out HY.out).mono ?_
              rintro e w7 ⟨rfl, m7, hw7⟩
              have HA7 : Hid (AP w w7 No P Q f _ _) := Lib.hid (by rw [hw7]; exact HA6.out.drewN m7)
              clear hw7
              go_wp2_with fail
              refine (ap_next HA7.out).mono ?_
              rintro e w8 ⟨rfl, rfl⟩
              go_wp2_with fail
              refine (ap_rnext HA7.out).mono ?_
              rintro e w8 ⟨rfl, m8, hw8⟩
              have HA8 : Hid (AP w w8 No P Q f _ _) := Lib.hid (by rw [hw8]; exact HA7.out.drewN m8)
              clear hw8
              go_wp2_with fail
              refine (ap_all HA8.out).mono ?_
              rintro e w9 ⟨A9, c9, rfl, hs9, ha9, _, _⟩
              have HS9 := Lib.hid hs9
              have HA9 := Lib.hid ha9
              clear hs9 ha9
              go_wp2_with fail
              refine (ap_rall HA9.out).mono ?_
              rintro e w10 ⟨A10, c10, rfl, hs10, ha10, _, hb10⟩
              have CS := Lib.hid (same_any (HS9.out.below hb10) hs10)
              have HA10 := Lib.hid ha10
              clear hs10 ha10 hb10
              go_wp2_with fail
              refine CS.out.mono ?_
              rintro e w11 ⟨rfl, m11, hw11⟩
              have HA11 : Hid (AP w w11 No P Q f _ _) := Lib.hid (by rw [hw11]; exact HA10.out.drewN m11)
              clear hw11
              have hsb : ∀ R, sameB R R = true := fun R => by unfold sameB; simp
              rw [hsb]
              clear hsb
              go_wp2_with fail
              go_roundw
              case rel => exact ⟨k + 1, by omega, by go_num, S', HST.out, HA11.out⟩
              case measure => simp [intOf]; omega
            ·
              have hfe : f + S.length = 1099511627777 := by have := HA3.out.top; omega
              have HFE := Lib.hid hfe
              clear hfe
              go_wp2_with fail
              refine (ap_full HA3.out HFE.out).mono ?_
              rintro e w4 ⟨rfl, rfl⟩
              go_wp2_with fail
              refine (ap_rfull HA3.out HFE.out).mono ?_
              rintro e w5 ⟨rfl, m5, hw5⟩
              have HA5 : Hid (AP w w5 No P Q f _ _) := Lib.hid (by rw [hw5]; exact HA3.out.drewN m5)
              clear hw5
              have HST := HSS
              obtain ⟨S', hS'⟩ : ∃ S', S = S' := ⟨_, rfl⟩
              subst hS'

              go_wp2_with fail
              refine (ap_state HA5.out HST.out HY.out).mono ?_
              rintro e w6 ⟨rfl, ha6, _, _⟩
              have HA6 := Lib.hid ha6
              clear ha6
              go_wp2_with fail
              refine (ap_rstate HA6.out HY.out).mono ?_
              rintro e w7 ⟨rfl, m7, hw7⟩
              have HA7 : Hid (AP w w7 No P Q f _ _) := Lib.hid (by rw [hw7]; exact HA6.out.drewN m7)
              clear hw7
              go_wp2_with fail
              refine (ap_next HA7.out).mono ?_
              rintro e w8 ⟨rfl, rfl⟩
              go_wp2_with fail
              refine (ap_rnext HA7.out).mono ?_
              rintro e w8 ⟨rfl, m8, hw8⟩
              have HA8 : Hid (AP w w8 No P Q f _ _) := Lib.hid (by rw [hw8]; exact HA7.out.drewN m8)
              clear hw8
              go_wp2_with fail
              refine (ap_all HA8.out).mono ?_
              rintro e w9 ⟨A9, c9, rfl, hs9, ha9, _, _⟩
              have HS9 := Lib.hid hs9
              have HA9 := Lib.hid ha9
              clear hs9 ha9
              go_wp2_with fail
              refine (ap_rall HA9.out).mono ?_
              rintro e w10 ⟨A10, c10, rfl, hs10, ha10, _, hb10⟩
              have CS := Lib.hid (same_any (HS9.out.below hb10) hs10)
              have HA10 := Lib.hid ha10
              clear hs10 ha10 hb10
              go_wp2_with fail
              refine CS.out.mono ?_
              rintro e w11 ⟨rfl, m11, hw11⟩
              have HA11 : Hid (AP w w11 No P Q f _ _) := Lib.hid (by rw [hw11]; exact HA10.out.drewN m11)
              clear hw11
              have hsb : ∀ R, sameB R R = true := fun R => by unfold sameB; simp
              rw [hsb]
              clear hsb
              go_wp2_with fail
              go_roundw
              case rel => exact ⟨k + 1, by omega, by go_num, S, HST.out, HA11.out⟩
              case measure => simp [intOf]; omega
          ·
            obtain ⟨y, hy⟩ : ∃ y : Nat, y = f + x % 64 := ⟨_, rfl⟩
            have hyz : (f : Int) + (x : Int) % 64 = (y : Int) := by omega
            have HY : Hid (y < 18446744073709551616) := Lib.hid (by omega)
            clear hy
            by_cases hfu : f + S.length ≤ 1099511627776
            ·
              go_wp2_with fail
              refine (ap_begin HA3.out hfu).mono ?_
              rintro e w4 ⟨rfl, ha4, _⟩
              have HA4 := Lib.hid ha4
              clear ha4
              go_wp2_with fail
              refine (ap_rbegin HA4.out hfu).mono ?_
              rintro e w5 ⟨rfl, ha5, _⟩
              have HST := Lib.hid (st_ok_snoc HSS.out)
              obtain ⟨S', hS'⟩ : ∃ S', S ++ [1] = S' := ⟨_, rfl⟩
              rw [hS'] at ha5 HST
              have HA5 := Lib.hid ha5
              clear ha5 hS' HA4 hfu

              go_wp2_with fail
              refine (ap_state HA5.out HST.out HY.out).mono ?_
              rintro e w6 ⟨rfl, ha6, _, _⟩
              have HA6 := Lib.hid ha6
              clear ha6
              go_wp2_with fail
              refine (ap_rstate HA6.out HY.out).mono ?_
              rintro e w7 ⟨rfl, m7, hw7⟩
              have HA7 : Hid (AP w w7 No P Q f _ _) := Lib.hid (by rw [hw7]; exact HA6.out.drewN m7)
              clear hw7
              go_wp2_with fail
              refine (ap_next HA7.out).mono ?_
              rintro e w8 ⟨rfl, rfl⟩
              go_wp2_with fail
              refine (ap_rnext HA7.out).mono ?_
              rintro e w8 ⟨rfl, m8, hw8⟩
              have HA8 : Hid (AP w w8 No P Q f _ _) := Lib.hid (by rw [hw8]; exact HA7.out.drewN m8)
              clear hw8
              go_wp2_with fail
              refine (ap_all HA8.out).mono ?_
              rintro e w9 ⟨A9, c9, rfl, hs9, ha9, _, _⟩
              have HS9 := Lib.hid hs9
              have HA9 := Lib.hid ha9
              clear hs9 ha9
              go_wp2_with fail
              refine (ap_rall HA9.out).mono ?_
              rintro e w10 ⟨A10, c10, rfl, hs10, ha10, _, hb10⟩
              have CS := Lib.hid (same_any (HS9.out.below hb10) hs10)
              have HA10 := Lib.hid ha10
              clear hs10 ha10 hb10
              go_wp2_with fail
              refine CS.out.mono ?_
              rintro e w11 ⟨rfl, m11, hw11⟩
              have HA11 : Hid (AP w w11 No P Q f _ _) := Lib.hid (by rw [hw11]; exact HA10.out.drewN m11)
              clear hw11
              have hsb : ∀ R, sameB R R = true := fun R => by unfold sameB; simp
              rw [hsb]
              clear hsb
              go_wp2_with fail
              go_roundw
              case rel => exact ⟨k + 1, by omega, by go_num, S', HST.out, HA11.out⟩
              case measure => simp [intOf]; omega
            ·
              have hfe : f + S.length = 1099511627777 := by have := HA3.out.top; omega
              have HFE := Lib.hid hfe
              clear hfe
              go_wp2_with fail
              refine (ap_full HA3.out HFE.out).mono ?_
              rintro e w4 ⟨rfl, rfl⟩
              go_wp2_with fail
              refine (ap_rfull HA3.out HFE.out).mono ?_
              rintro e w5 ⟨rfl, m5, hw5⟩
              have HA5 : Hid (AP w w5 No P Q f _ _) := Lib.hid (by rw [hw5]; exact HA3.out.drewN m5)
              clear hw5
              have HST := HSS
              obtain ⟨S', hS'⟩ : ∃ S', S = S' := ⟨_, rfl⟩
              subst hS'

              go_wp2_with fail
              refine (ap_state HA5.out HST.out HY.out).mono ?_
              rintro e w6 ⟨rfl, ha6, _, _⟩
              have HA6 := Lib.hid ha6
              clear ha6
              go_wp2_with fail
              refine (ap_rstate HA6.out HY.out).mono ?_
              rintro e w7 ⟨rfl, m7, hw7⟩
              have HA7 : Hid (AP w w7 No P Q f _ _) := Lib.hid (by rw [hw7]; exact HA6.out.drewN m7)
              clear hw7
              go_wp2_with fail
              refine (ap_next HA7.out).mono ?_
              rintro e w8 ⟨rfl, rfl⟩
              go_wp2_with fail
              refine (ap_rnext HA7.out).mono ?_
              rintro e w8 ⟨rfl, m8, hw8⟩
              have HA8 : Hid (AP w w8 No P Q f _ _) := Lib.hid (by rw [hw8]; exact HA7.out.drewN m8)
              clear hw8
              go_wp2_with fail
              refine (ap_all HA8.out).mono ?_
              rintro e w9 ⟨A9, c9, rfl, hs9, ha9, _, _⟩
              have HS9 := Lib.hid hs9
              have HA9 := Lib.hid ha9
              clear hs9 ha9
              go_wp2_with fail
              refine (ap_rall HA9.out).mono ?_
              rintro e w10 ⟨A10, c10, rfl, hs10, ha10, _, hb10⟩
              have CS := Lib.hid (same_any (HS9.out.below hb10) hs10)
              have HA10 := Lib.hid ha10
              clear hs10 ha10 hb10
              go_wp2_with fail
              refine CS.out.mono ?_
              rintro e w11 ⟨rfl, m11, hw11⟩
              have HA11 : Hid (AP w w11 No P Q f _ _) := Lib.hid (by rw [hw11]; exact HA10.out.drewN m11)
              clear hw11
              have hsb : ∀ R, sameB R R = true := fun R => by unfold sameB; simp
              rw [hsb]
              clear hsb
              go_wp2_with fail
              go_roundw
              case rel => exact ⟨k + 1, by omega, by go_num, S, HST.out, HA11.out⟩
              case measure => simp [intOf]; omega
    · obtain rfl : k = n := by omega
      have HX := HA
      go_wp2_with fail
      go_loopw [127] (fun i wr => ∃ j : Nat, j ≤ 62 ∧ i = .int .u64 j ∧ AP w wr No P Q f S S) (fun i _ => 62 - (intOf i).toNat)
      case atStart => exact ⟨0, by omega, rfl, HX.out⟩
      case round =>
        obtain ⟨j, hj, rfl, haj⟩ := hrel
        have HAJ := Lib.hid haj
        clear haj
        by_cases hlj : j < 62
        · have hlj' : (j : Int) < 62 := by omega
          have CS := ap_state HAJ.out HSS.out (x := f + j) (by omega)
          rw [Int.natCast_add] at CS
          have CS := Lib.hid CS
          go_wp2_with fail
          refine CS.out.mono ?_
          rintro e w8 ⟨rfl, ha8, _, _⟩
          have HA8 := Lib.hid ha8
          have CR := ap_rstate ha8 (x := f + j) (by omega)
          rw [Int.natCast_add] at CR
          have CR := Lib.hid CR
          clear ha8
          go_wp2_with fail
          refine CR.out.mono ?_
          rintro e w9 ⟨rfl, m8, hw8⟩
          have HA9 : Hid (AP w w9 No P Q f _ _) := Lib.hid (by rw [hw8]; exact HA8.out.drewN m8)
          clear hw8
          go_wp2_with fail
          go_roundw
          case rel => exact ⟨j + 1, by omega, by go_num, HA9.out⟩
          case measure => simp [intOf]; omega
        · obtain rfl : j = 62 := by omega
          have HBJ := Lib.hid HAJ.out.bel
          go_wp2_with fail
          go_ret
          exact ⟨rfl, HBJ.out⟩

theorem plays_walk (w : World) (b0 : Bool) (f : Nat) (hf : f < 18446744073709551616) (l : List O9) (A : Option Addr) (n c : Nat) (hl : l.length = n) (hs : Sl w w.heap.size 3 A n c (o9_s l)) (hok : ∀ o ∈ l, o.ok) :
    Calls Try.prog 3 #[.bool b0, .int .u64 (f : Int), .slice A n c] w fun e w' => e = .returned (.bool true) ∧ Below w.heap.size w w' := by
  by_cases hb : f = 0 ∨ 1099511627776 < f
  · exact plays_bad w b0 f hb hf l A n c hl hs hok
  · cases b0
    · exact plays_good w f (by omega) (by omega) l A n c hl hs hok
    · exact plays_nil w f (by omega) (by omega) l A n c hl hs hok
end Go.Proofs.Ytajkedckleoboaa.Clg

