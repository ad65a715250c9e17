/- key.add: a value's bytes behind a slice of the call's own. -/
import Derived.Test.YtfabcnbblhadnaaDoorNumB
import Derived.Deep.RegionHeld3
import Derived.Deep.DrawnRows
namespace Go.Proofs.YtfabcnbblhadnaaDoor.Mem
open Go.RowKit Go.Proofs.YtfabcnbblhadnaaDoor.Nums
set_option linter.unusedVariables false
set_option maxRecDepth 100000
def vBytes (k i : Int) (s : ByteArray) (b : Bool) : List UInt8 :=
  if k = 3 then (if b then [2, 1] else [2, 0]) else if k = 1 then 3 :: beU (turned i) else if k = 2 then 4 :: (s.data.toList ++ [0]) else [1]
def vLen (k : Int) (s : ByteArray) : Nat := if k = 3 then 2 else if k = 1 then 9 else if k = 2 then s.size + 2 else 1
theorem vBytes_len (k i : Int) (s : ByteArray) (b : Bool) : (vBytes k i s b).length = vLen k s := by
  unfold vBytes vLen
  by_cases h3 : k = 3
  · rw [if_pos h3, if_pos h3]; cases b <;> rfl
  rw [if_neg h3, if_neg h3]
  by_cases h1 : k = 1
  · rw [if_pos h1, if_pos h1, List.length_cons, beU_len]
  rw [if_neg h1, if_neg h1]
  by_cases h2 : k = 2
  · rw [if_pos h2, if_pos h2]
    simp
  rw [if_neg h2, if_neg h2]; rfl
theorem grew_one {v v1 : Value} {w w1 : World} {o o' : Obj} (hg : Kin ((w.alloc o).alloc o') w1 v v1) : Kin w w1 v v1 := ((Kin.alloc _ _ _).trans (Kin.alloc _ _ _)).trans hg

theorem sz_ad (w : World) (o : Obj) : (w.alloc o).drew.heap.size = w.heap.size + 1 := size_alloc w o
theorem kin_ne {w w' : World} {v v' : Value} {b : Nat} (h : Kin w w' v v') (hne : v.ownBlock ≠ some b) (hb : b < w.heap.size) : v'.ownBlock ≠ some b := by
  rcases h.2 with e | ⟨g, e, hg⟩
  · rw [e]; exact hne
  · rw [e]; intro x; injection x with x; omega
theorem keep2 {w w' : World} {v v' : Value} {a : Addr} {u : Value} (hc : w.cell? a = some u) (h : Kin w w' v v') (_ : True) (hne : v.ownBlock ≠ some a.block) : w'.cell? a = some u := h.cell hc hne
theorem add_3 (B : Nat) (v : Value) (n : Nat) (xs : List Value) (i : Int) (s : ByteArray) (b : Bool) (w : World) (hown : OwnB w B v n xs) (hB : B ≤ w.heap.size) (hn : n ≤ 1000000) :
    Calls Tryd.prog 39 #[v, .agg #[.int .u8 3, .int .i64 i, .string s, .bool b]] w (Grew B v (n + 2) (xs ++ u8s (vBytes 3 i s b)) w) := by
  have HO := Lib.hid hown
  clear hown
  cases b
  · go_enter Tryd.func39, Tryd.ntmps39
    go_wp2_with (at_builtin; refine wpl_app_b rfl (.tmp 14) (.tmp 15) rfl B v n xs rfl ((HO.out.alloc _).alloc _) _ _ 2 _ rfl (lies_at _ _ _ 1 2 (w.heap.size + 1) (size_alloc _ _) rfl) (one2 _ _ _) (by omega) (by rw [size_alloc, size_alloc]; omega) ?_; intro v1 w1 hown1 hgrow1)
    go_ret
    exact ⟨_, rfl, hown1, grew_one hgrow1⟩
  · go_enter Tryd.func39, Tryd.ntmps39
    go_wp2_with (at_builtin; refine wpl_app_b rfl (.tmp 11) (.tmp 12) rfl B v n xs rfl ((HO.out.alloc _).alloc _) _ _ 2 _ rfl (lies_at _ _ _ 1 2 (w.heap.size + 1) (size_alloc _ _) rfl) (one2 _ _ _) (by omega) (by rw [size_alloc, size_alloc]; omega) ?_; intro v1 w1 hown1 hgrow1)
    go_ret
    exact ⟨_, rfl, hown1, grew_one hgrow1⟩
theorem add_0 (B : Nat) (v : Value) (n : Nat) (xs : List Value) (i : Int) (s : ByteArray) (b : Bool) (w : World) (hown : OwnB w B v n xs) (hB : B ≤ w.heap.size) (hn : n ≤ 1000000) :
    Calls Tryd.prog 39 #[v, .agg #[.int .u8 0, .int .i64 i, .string s, .bool b]] w (Grew B v (n + 1) (xs ++ u8s (vBytes 0 i s b)) w) := by
  have HO := Lib.hid hown
  clear hown
  go_enter Tryd.func39, Tryd.ntmps39
  go_wp2_with (at_builtin; refine wpl_app_b rfl (.tmp 36) (.tmp 37) rfl B v n xs rfl ((HO.out.alloc _).alloc _) _ _ 1 _ rfl (lies_at _ _ _ 1 1 (w.heap.size + 1) (size_alloc _ _) rfl) (one1 _ _) (by omega) (by rw [size_alloc, size_alloc]; omega) ?_; intro v1 w1 hown1 hgrow1)
  go_ret
  exact ⟨_, rfl, hown1, grew_one hgrow1⟩
attribute [local go_sem ↓] Go.wp_at_zero Go.wp_at_succ
theorem add_1 (B : Nat) (v : Value) (n : Nat) (xs : List Value) (i : Int) (s : ByteArray) (b : Bool) (w : World) (hown : OwnB w B v n xs) (hB : B ≤ w.heap.size) (hn : n ≤ 1000) (hi : Nums.In64 i) :
    Calls Tryd.prog 39 #[v, .agg #[.int .u8 1, .int .i64 i, .string s, .bool b]] w (Grew B v (n + 9) (xs ++ u8s (vBytes 1 i s b)) w) := by
  obtain ⟨W, hW⟩ : ∃ W, w.alloc (.cells #[.int .u8 1, .int .i64 i, .string s, .bool b] 43) = W := ⟨_, rfl⟩
  have hOW : Hid (OwnB W B v n xs) := Lib.hid (by rw [← hW]; exact hown.alloc _)
  have x1 : Hid (W.cell? ⟨w.heap.size, 1, none⟩ = some (.int .i64 i)) := Lib.hid (by rw [← hW]; exact (at_new w _ _).2 1 _ rfl)
  have hWs : Hid (W.heap.size = w.heap.size + 1) := Lib.hid (by rw [← hW]; exact size_alloc _ _)
  have HBW : Hid (Kin w W v v) := Lib.hid (by rw [← hW]; exact Kin.alloc _ _ _)
  have hne : Hid (v.ownBlock ≠ some w.heap.size) := Lib.hid (by intro e; have := (World.ownsRow.lt hown _ e).2; omega)
  have HW := Lib.hid hW
  clear hW hown
  have HI := Lib.hid hi
  clear hi
  go_enter Tryd.func39, Tryd.ntmps39
  go_wp2_with fail
  rw [HW.out]
  have x1 := x1.out
  have hWz : B ≤ W.heap.size := by have := hWs.out; omega
  go_region_held3 (fun w' => w'.cell? ⟨w.heap.size, 1, none⟩ = some (.int .i64 i)) (first | go_keep | exact hgrow1.cell (by assumption) hne.out | exact hb2.cell (by assumption) hne2)
    (first
      | (go_at_call 54; refine (addNumber_any B v1 (n + 1) _ i _ hown1 hsz1 (by omega) HI.out).mono ?_; rintro e w2 ⟨v2, rfl, hown2, hb2⟩)
      | (refine step_app_b (by rfl) _ _ (by rfl) B v n xs (by rfl) (hOW.out.alloc _) _ _ 1 _ (by rfl) (lies_lit _ _ _ 1 1 (by rfl)) (one1 _ _) (by omega) (by rw [sz_ad]; omega) ?_; intro v1 w1 hown1 hgrow1; have hsz1 : B ≤ w1.heap.size := Nat.le_trans hWz (Nat.le_trans (by rw [sz_ad]; omega) hgrow1.size); have hne2 : v1.ownBlock ≠ some w.heap.size := kin_ne hgrow1 hne.out (by rw [sz_ad, hWs.out]; omega)))
  go_wp2_with fail
  go_ret
  refine ⟨_, rfl, own_eq hown2 (by omega) ?_, ((HBW.out.trans (Kin.alloc _ _ _).drew).trans hgrow1).trans hb2⟩
  rw [List.append_assoc]
  rfl
theorem add_2 (B : Nat) (v : Value) (n : Nat) (xs : List Value) (i : Int) (s : ByteArray) (b : Bool) (w : World) (hown : OwnB w B v n xs) (hB : B ≤ w.heap.size) (hn : n ≤ 1000) (hs : s.size ≤ 1000) :
    Calls Tryd.prog 39 #[v, .agg #[.int .u8 2, .int .i64 i, .string s, .bool b]] w (Grew B v (n + (s.size + 2)) (xs ++ u8s (vBytes 2 i s b)) w) := by
  obtain ⟨W, hW⟩ : ∃ W, w.alloc (.cells #[.int .u8 2, .int .i64 i, .string s, .bool b] 43) = W := ⟨_, rfl⟩
  have hOW : Hid (OwnB W B v n xs) := Lib.hid (by rw [← hW]; exact hown.alloc _)
  have x1 : Hid (W.cell? ⟨w.heap.size, 2, none⟩ = some (.string s)) := Lib.hid (by rw [← hW]; exact (at_new w _ _).2 2 _ rfl)
  have hWs : Hid (W.heap.size = w.heap.size + 1) := Lib.hid (by rw [← hW]; exact size_alloc _ _)
  have HBW : Hid (Kin w W v v) := Lib.hid (by rw [← hW]; exact Kin.alloc _ _ _)
  have hne : Hid (v.ownBlock ≠ some w.heap.size) := Lib.hid (by intro e; have := (World.ownsRow.lt hown _ e).2; omega)
  have HW := Lib.hid hW
  clear hW hown
  go_enter Tryd.func39, Tryd.ntmps39
  go_wp2_with fail
  rw [HW.out]
  have x1 := x1.out
  have hWz : B ≤ W.heap.size := by have := hWs.out; omega
  go_region_held3 (fun w' => w'.cell? ⟨w.heap.size, 2, none⟩ = some (.string s)) (first | go_keep | exact hgrow1.cell (by assumption) hne.out | exact hgrow2.cell (by assumption) hne2)
    (first
      | (refine step_app_s (by rfl) _ _ (by rfl) B v1 (n + 1) _ (by rfl) hown1 s (by rfl) (by omega) hsz1 ?_; intro v2 w2 hown2 hgrow2)
      | (refine step_app_b (by rfl) _ _ (by rfl) B v n xs (by rfl) (hOW.out.alloc _) _ _ 1 _ (by rfl) (lies_lit _ _ _ 1 1 (by rfl)) (one1 _ _) (by omega) (by rw [sz_ad]; omega) ?_; intro v1 w1 hown1 hgrow1; have hsz1 : B ≤ w1.heap.size := Nat.le_trans hWz (Nat.le_trans (by rw [sz_ad]; omega) hgrow1.size); have hne2 : v1.ownBlock ≠ some w.heap.size := kin_ne hgrow1 hne.out (by rw [sz_ad, hWs.out]; omega)))
  have HK : Hid (Kin w w2 v v2) := Lib.hid (((HBW.out.trans (Kin.alloc _ _ _).drew).trans hgrow1).trans hgrow2)
  have HO2 := Lib.hid hown2
  have hsz2 : B ≤ w2.heap.size := Nat.le_trans hB HK.out.size
  clear hown1 hown2 hgrow1 hgrow2 hne2 hsz1
  go_wp2_with (at_builtin; refine wpl_app_b rfl (.tmp 33) (.tmp 34) rfl B v2 _ _ rfl (HO2.out.alloc _) _ _ 1 _ rfl (lies_lit _ _ _ 1 1 rfl) (one1 _ _) (by omega) (by rw [size_alloc]; omega) ?_; intro v3 w3 hown3 hgrow3)
  go_ret
  refine ⟨_, rfl, own_eq hown3 (by omega) ?_, HK.out.trans ((Kin.alloc _ _ _).trans hgrow3)⟩
  rw [List.append_assoc, List.append_assoc]
  congr 1
  show _ = u8s (4 :: (s.data.toList ++ [0]))
  rw [strCells_u8s]
  show _ = u8s ([4] ++ (s.data.toList ++ [0]))
  rw [u8s_app, u8s_app]
  rfl
theorem add_any (B : Nat) (v : Value) (n : Nat) (xs : List Value) (k i : Int) (s : ByteArray) (b : Bool) (w : World) (hk : k = 0 ∨ k = 1 ∨ k = 2 ∨ k = 3) (hown : OwnB w B v n xs) (hB : B ≤ w.heap.size) (hn : n ≤ 1000) (hi : Nums.In64 i) (hs : s.size ≤ 1000) :
    Calls Tryd.prog 39 #[v, .agg #[.int .u8 k, .int .i64 i, .string s, .bool b]] w (Grew B v (n + vLen k s) (xs ++ u8s (vBytes k i s b)) w) := by
  rcases hk with rfl | rfl | rfl | rfl
  · exact add_0 B v n xs i s b w hown hB (by omega)
  · exact add_1 B v n xs i s b w hown hB hn hi
  · exact add_2 B v n xs i s b w hown hB hn hs
  · exact add_3 B v n xs i s b w hown hB (by omega)
end Go.Proofs.YtfabcnbblhadnaaDoor.Mem
