/- RoomPlays: its walk. -/
import Derived.Test.YtghlconkmbmflaaRoomK
import Derived.Deep.RegionHeld3
namespace Go.Proofs.Ytghlconkmbmflaa.Room
open Go.RowKit Go.Proofs.Ytghlconkmbmflaa.Nums Go.Proofs.Ytghlconkmbmflaa.Mem
set_option linter.unusedVariables false
set_option linter.unusedSimpArgs false
set_option maxRecDepth 100000
structure O where
  p : Int
  r : Int
  n : Int
def O.cells (o : O) : List Value := [.int .i64 o.p, .int .i64 o.r, .int .i64 o.n]
def ops (l : List O) : List Value := l.flatMap O.cells
theorem ops_len (l : List O) : (ops l).length = l.length * 3 := by
  induction l with
  | nil => rfl
  | cons v l ih =>
    show ((O.cells v) ++ ops l).length = _
    rw [List.length_append, ih, List.length_cons]
    show 3 + _ = _
    omega
theorem ops_at (l : List O) (k j : Nat) (v : O) (hv : l[k]? = some v) (hj : j < 3) : (ops l)[k * 3 + j]? = (O.cells v)[j]? := by
  induction l generalizing k with
  | nil => simp at hv
  | cons a l ih =>
    show ((O.cells a) ++ ops l)[k * 3 + j]? = _
    cases k with
    | zero =>
      simp at hv
      subst hv
      rw [List.getElem?_append_left (by show 0 * 3 + j < 3; omega), Nat.zero_mul, Nat.zero_add]
    | succ k =>
      have : l[k]? = some v := by simpa using hv
      rw [List.getElem?_append_right (by show 3 ≤ _; omega), ← ih k this]
      congr 1
      show (k + 1) * 3 + j - 3 = _
      omega
structure OAt (w : World) (p : Addr) (o : O) : Prop where
  c0 : w.cell? p = some (.int .i64 o.p)
  c1 : w.cell? ⟨p.block, p.off + 1, none⟩ = some (.int .i64 o.r)
  c2 : w.cell? ⟨p.block, p.off + 2, none⟩ = some (.int .i64 o.n)
theorem at_op {w : World} {B : Nat} {ad : Addr} {l : List O} (h : At w B ad (ops l)) {k : Nat} {o : O} (hv : l[k]? = some o) : OAt w (ad.add (k * 3)) o :=
  ⟨h.2 _ _ (ops_at l k 0 o hv (by omega)), by rw [← add_succ _ 0, add_two]; exact h.2 _ _ (ops_at l k 1 o hv (by omega)), by rw [← add_succ _ 1, add_two]; exact h.2 _ _ (ops_at l k 2 o hv (by omega))⟩
theorem Below.drewN' {B : Nat} {w w' : World} (h : Below B w w') (n : Nat) : Below B w (w'.drewN n) := ⟨h.os, h.tape, h.output, h.size, h.block⟩
theorem quiet_of {P : Program} {f : FuncId} {args : Array Value} {w : World} {n : Nat} {v : Value} (h : Calls P f args (w.drewN n) fun e w' => e = .returned v ∧ w.drewN n = w') : Calls P f args (w.drewN n) fun e w'' => e = .returned v ∧ ∃ m, w'' = w.drewN m :=
  h.mono fun _ _ ⟨he, hm⟩ => ⟨he, n, hm.symm⟩
theorem quiet_add {P : Program} {f : FuncId} {args : Array Value} {w : World} {a n : Nat} {v : Value} (h : Calls P f args (w.drewN (a + n)) fun e w' => e = .returned v ∧ w.drewN (a + n) = w') :
    Calls P f args (w.drewN (a + n)) fun e w'' => e = .returned v ∧ ∃ m, w'' = w.drewN (a + m) := h.mono fun _ _ ⟨he, hm⟩ => ⟨he, n, hm.symm⟩
theorem MapAt.drewN {w : World} {base P : Nat} {T : TypeId} {A : Option Addr} {c : Nat} {L : List Int} (h : MapAt w base T P A c L) (n : Nat) : MapAt (w.drewN n) base T P A c L := ⟨h.blk, h.own, h.ge⟩
theorem Two.drewN {w : World} {base P Q : Nat} {L K : List Int} (h : Two w base P Q L K) (n : Nat) : Two (w.drewN n) base P Q L K := by
  obtain ⟨hB, A, c, B, d, hM, hX, ha⟩ := h
  exact ⟨hB, A, c, B, d, hM.drewN n, hX.drewN n, ha⟩
set_option maxHeartbeats 4000000 in
theorem plays_nil (w : World) (l : List O) (A : Option Addr) (n c : Nat) (hl : l.length = n) (hs : Sl w w.heap.size 3 A n c (ops l)) :
    Calls Try.prog 3 #[.bool true, .slice A n c] w fun e w' => e = .returned (.bool true) ∧ Below w.heap.size w w' := by
  have HS := Lib.hid hs
  have HL := Lib.hid hl
  have hcap := hs.cap
  have hle := hs.le
  unfold maxLen at hcap
  clear hs hl
  go_enter Try.func3, Try.ntmps3
  go_wp2_with fail
  refine (awake_any _).mono ?_
  rintro e w1 ⟨rfl, hb1⟩
  have HB1 := Lib.hid hb1
  clear hb1
  go_wp2_with fail
  refine (new_any _).mono ?_
  rintro e w2 ⟨rfl, hw2⟩
  have HB2 : Hid (Below w.heap.size w w2) := Lib.hid (by subst hw2; exact bel_trans HB1.out (bel_alloc _ _))
  clear hw2 HB1
  go_wp2_with fail
  go_loopw [21] (fun i wr => ∃ k : Nat, k ≤ n ∧ i = .int .i64 k ∧ Below w.heap.size w wr) (fun i _ => n - (intOf i).toNat)
  case atStart => exact ⟨0, by omega, rfl, bel_trans HB2.out (bel_alloc _ _)⟩
  case round =>
    obtain ⟨k, hk, rfl, hb⟩ := hrel
    have HB := Lib.hid hb
    clear hb HB2
    by_cases hlt : k < n
    · obtain ⟨o, ho⟩ : ∃ o, l[k]? = some o := ⟨_, List.getElem?_eq_getElem (by rw [HL.out]; exact hlt)⟩
      obtain ⟨ad, rfl, hAt⟩ := HS.out.at_ (by omega)
      obtain ⟨x0, x1, x2⟩ := at_op (hAt.below HB.out) ho
      obtain ⟨p, r, q⟩ := o
      have hlt' : (k : Int) < n := by omega
      have HB3 := Lib.hid (bel_trans HB.out (bel_alloc wr (.cells #[.int .i64 p, .int .i64 r, .int .i64 q] 31)))
      clear ho hAt
      by_cases h300 : 300 ≤ k
      · have h300' : (300 : Int) ≤ k := by omega
        go_wp2_with fail
        go_ret
        exact ⟨rfl, HB3.out⟩
      · have h300' : ¬ (300 : Int) ≤ k := by omega
        go_wp2_with fail
        go_quiet (first | (go_at_call 9; exact quiet_of (set_nil _ _ _)) | (go_at_call 10; exact quiet_of (rset_nil _ _ _)))
        go_wp2_with fail
        refine (find_nil _ _).mono ?_
        rintro e w4 ⟨rfl, rfl⟩
        go_wp2_with fail
        refine (rfind_nil _ _).mono ?_
        rintro e w4 ⟨rfl, rfl⟩
        go_wp2_with fail
        go_quiet (first | (go_at_call 13; exact quiet_add (get_nil _ _)) | (go_at_call 14; exact quiet_add (rget_nil _ _)))
        go_wp2_with fail
        go_quiet ((go_at_call 15; exact quiet_add (pages_nil _)))
        go_wp2_with fail
        go_roundw
        case rel => exact ⟨k + 1, by omega, by go_num, Below.drewN' HB3.out _⟩
        case measure => simp [intOf]; omega
    · obtain rfl : k = n := by omega
      go_wp2_with fail
      go_ret
      exact ⟨rfl, HB.out⟩
theorem o_cells {w : World} {H : Nat} {o : O} (h : Blk w H 31 #[.int .i64 o.p, .int .i64 o.r, .int .i64 o.n]) : w.cell? ⟨H, 0, none⟩ = some (.int .i64 o.p) ∧ w.cell? ⟨H, 1, none⟩ = some (.int .i64 o.r) ∧ w.cell? ⟨H, 2, none⟩ = some (.int .i64 o.n) := ⟨h.cell 0, h.cell 1, h.cell 2⟩
theorem Besides.op {base P Q : Nat} {w w' : World} (h : Besides base P Q w w') {L K : List Int} (ht : Two w base P Q L K) {H : Nat} {cs : Array Value} (hb : Blk w H 31 cs) : Blk w' H 31 cs := by
  obtain ⟨hB, A, c, B, d, hM, hX, ha⟩ := ht
  exact h.2 _ _ _ hb (by decide) (hb.ne_ hM.blk (by decide)) (hb.ne_ hX.blk (by decide))
theorem Two.alloc {w : World} {base P Q : Nat} {L K : List Int} (h : Two w base P Q L K) (o : Obj) : Two (w.alloc o) base P Q L K := by
  obtain ⟨hB, A, c, B, d, hM, hX, ha⟩ := h
  exact ⟨by rw [size_alloc]; omega, A, c, B, d, ⟨hM.blk.alloc _, hM.own.alloc _, hM.ge⟩, ⟨hX.blk.alloc _, hX.own.alloc _, hX.ge⟩, ha⟩
theorem Two.drew {w : World} {base P Q : Nat} {L K : List Int} (h : Two w base P Q L K) : Two w.drew base P Q L K := h.drewN 1
theorem two_new (w : World) (base : Nat) (hB : base ≤ w.heap.size) : Two ((w.alloc (.cells #[.slice none 0 0] 49)).alloc (.cells #[.slice none 0 0] 29)) base w.heap.size (w.heap.size + 1) [] [] := by
  have h0 := map_new w 49
  have h1 := map_new (w.alloc (.cells #[.slice none 0 0] 49)) 29
  rw [size_alloc] at h1
  refine ⟨by rw [size_alloc, size_alloc]; omega, none, 0, none, 0, ⟨h0.blk.alloc _, World.ownsRow_nil _ _ _ _, hB⟩, ⟨h1.blk, World.ownsRow_nil _ _ _ _, by omega⟩, fun g hg => by simp [Value.ownBlock] at hg⟩
theorem Two.load {w : World} {base P Q : Nat} {L K : List Int} (h : Two w base P Q L K) : ∃ B d, w.cell? ⟨Q, 0, none⟩ = some (.slice B K.length d) := by
  obtain ⟨hB, A, c, B, d, hM, hX, ha⟩ := h
  exact ⟨B, d, hX.cell⟩
set_option maxHeartbeats 4000000 in
theorem plays_two (w : World) (l : List O) (A : Option Addr) (n c : Nat) (hl : l.length = n) (hs : Sl w w.heap.size 3 A n c (ops l)) :
    Calls Try.prog 3 #[.bool false, .slice A n c] w fun e w' => e = .returned (.bool true) ∧ Below w.heap.size w w' := by
  have HS := Lib.hid hs
  have HL := Lib.hid hl
  have hcap := hs.cap
  have hle := hs.le
  unfold maxLen at hcap
  clear hs hl
  go_enter Try.func3, Try.ntmps3
  go_wp2_with fail
  refine (awake_any _).mono ?_
  rintro e w1 ⟨rfl, hb1⟩
  have HB1 := Lib.hid hb1
  have hz1 := hb1.size
  clear hb1
  go_wp2_with fail
  refine (new_any _).mono ?_
  rintro e w2 ⟨rfl, hw2⟩
  have HT2 : Hid (Two (w2.alloc (.cells #[.slice none 0 0] 29)) w.heap.size w1.heap.size w2.heap.size [] []) := Lib.hid (by subst hw2; rw [size_alloc]; exact two_new w1 _ hz1)
  have HB2 : Hid (Below w.heap.size w (w2.alloc (.cells #[.slice none 0 0] 29))) := Lib.hid (by subst hw2; exact bel_trans (bel_trans HB1.out (bel_alloc _ _)) (bel_alloc _ _))
  generalize w1.heap.size = P at *
  generalize hQ : w2.heap.size = Q at *
  have HQ := Lib.hid hQ
  clear hw2 HB1 hQ
  go_wp2_with fail
  rw [HQ.out]
  go_loopw [21] (fun i wr => ∃ k : Nat, k ≤ n ∧ i = .int .i64 k ∧ Below w.heap.size w wr ∧ ∃ L, L.length ≤ 256 ∧ Two wr w.heap.size P Q L L) (fun i _ => n - (intOf i).toNat)
  case atStart => exact ⟨0, by omega, rfl, HB2.out, [], by simp, HT2.out⟩
  case round =>
    obtain ⟨k, hk, rfl, hb, L, hL, hT⟩ := hrel
    have HB := Lib.hid hb
    have HT := Lib.hid hT
    clear hb HB2 hT HT2
    by_cases hlt : k < n
    · obtain ⟨o, ho⟩ : ∃ o, l[k]? = some o := ⟨_, List.getElem?_eq_getElem (by rw [HL.out]; exact hlt)⟩
      obtain ⟨ad, rfl, hAt⟩ := HS.out.at_ (by omega)
      obtain ⟨x0, x1, x2⟩ := at_op (hAt.below HB.out) ho
      obtain ⟨p, r, q⟩ := o
      have hlt' : (k : Int) < n := by omega
      have HB3 := Lib.hid (bel_trans HB.out (bel_alloc wr (.cells #[.int .i64 p, .int .i64 r, .int .i64 q] 31)))
      have HT3 := HT.out.alloc (.cells #[.int .i64 p, .int .i64 r, .int .i64 q] 31)
      have HO3 : Blk (wr.alloc (.cells #[.int .i64 p, .int .i64 r, .int .i64 q] 31)) wr.heap.size _ _ := Blk.new wr 31 #[.int .i64 p, .int .i64 r, .int .i64 q]
      clear ho hAt
      by_cases h300 : 300 ≤ k
      · have h300' : (300 : Int) ≤ k := by omega
        go_wp2_with fail
        go_ret
        exact ⟨rfl, HB3.out⟩
      · have h300' : ¬ (300 : Int) ≤ k := by omega
        have HN := Lib.hid (setR_len (L := L) (p := p) (r := r) hL)
        have HH : Hid ((setR L p r).1 = (setR L p r).1) := Lib.hid rfl
        generalize hG : wr.alloc (.cells #[.int .i64 p, .int .i64 r, .int .i64 q] 31) = wg at *
        have HG := Lib.hid hG
        clear hG
        go_wp2_with fail
        rw [HG.out]
        have hxx0 := (o_cells (o := ⟨p, r, q⟩) HO3).1
        have hxx1 := (o_cells (o := ⟨p, r, q⟩) HO3).2.1
        go_region_held3 (fun w' => w'.cell? ⟨wr.heap.size, 0, none⟩ = some (.int .i64 p) ∧ w'.cell? ⟨wr.heap.size, 1, none⟩ = some (.int .i64 r)) (first | go_keep | exact ⟨(o_cells (o := ⟨p, r, q⟩) hO4).1, (o_cells (o := ⟨p, r, q⟩) hO4).2.1⟩)
          (first
            | (go_at_call 9; refine (set_two (by first | assumption | exact Two.drew (by assumption)) hL _ _).mono ?_; rintro e w4 ⟨rfl, hT4, hS4⟩; have hO4 := hS4.op (by first | assumption | exact Two.drew (by assumption)) (by assumption))
            | (go_at_call 10; refine (rset_two (by first | assumption | exact Two.drew (by assumption)) hL _ _).mono ?_; rintro e w4 ⟨rfl, hT4, hS4⟩; have hO4 := hS4.op (by first | assumption | exact Two.drew (by assumption)) (by assumption)))
        have HB5 := Lib.hid ((bel_trans HB3.out (Below.drewN' (Below.refl _ _) 1)).trans ((Besides.trans (by assumption) hS4).1))
        have HT5 := Lib.hid hT4
        obtain ⟨y0, y1, y2⟩ := o_cells (o := ⟨p, r, q⟩) hO4
        obtain ⟨B5, d5, yq⟩ := hT4.load
        obtain ⟨L', hL'⟩ : ∃ L', (setR L p r).2 = L' := ⟨_, rfl⟩
        rw [hL'] at HT5 HN yq
        obtain ⟨f1, hf1⟩ : ∃ f, findR L' q = f := ⟨_, rfl⟩
        have F1 := Lib.hid (fun W (h : Two W w.heap.size P Q L' L') => find_two h q)
        have F2 := Lib.hid (fun W (h : Two W w.heap.size P Q L' L') => rfind_two h q)
        rw [hf1] at F1 F2
        clear hT4 hS4 hO4 hL' hf1 HT3 HO3 hxx0 hxx1 x0 x1 x2 hL
        generalize (setR L p r).1 = E0
        go_wp2_with fail
        refine (F1.out _ HT5.out).mono ?_
        rintro e w5 ⟨rfl, rfl⟩
        go_wp2_with fail
        refine (F2.out _ HT5.out).mono ?_
        rintro e w5 ⟨rfl, rfl⟩
        go_wp2_with fail
        go_quiet (first | (go_at_call 13; exact quiet_of (get_two (HT5.out.drewN _) _)) | (go_at_call 14; exact quiet_of (rget_two (HT5.out.drewN _) _)))
        go_wp2_with fail
        go_quiet ((go_at_call 15; exact quiet_add (pages_two (HT5.out.drewN _))))
        go_wp2_with fail
        go_roundw
        case rel => exact ⟨k + 1, by omega, by go_num, Below.drewN' HB5.out _, L', HN.out, HT5.out.drewN _⟩
        case measure => simp [intOf]; omega
    · obtain rfl : k = n := by omega
      go_wp2_with fail
      go_ret
      exact ⟨rfl, HB.out⟩
theorem plays_walk (w : World) (b : Bool) (l : List O) (A : Option Addr) (n c : Nat) (hl : l.length = n) (hs : Sl w w.heap.size 3 A n c (ops l)) :
    Calls Try.prog 3 #[.bool b, .slice A n c] w fun e w' => e = .returned (.bool true) ∧ Below w.heap.size w w' := by
  cases b
  · exact plays_two w l A n c hl hs
  · exact plays_nil w l A n c hl hs
end Go.Proofs.Ytghlconkmbmflaa.Room
