/- book.entry: named, made, alive, droppedBy, free, dead. -/
import Derived.Test.YtnpmjljpaaaljaaBookE
namespace Go.Proofs.Ytnpmjljpaaaljaa.Bok
open Go.ChangeMaps Go.MapKept Go.RowKit Go.Proofs.Ytnpmjljpaaaljaa.Nums Go.Proofs.Ytnpmjljpaaaljaa.Mem Go.Proofs.Ytnpmjljpaaaljaa.Clg
set_option linter.unusedVariables false
set_option linter.unusedSimpArgs false
set_option maxRecDepth 100000
set_option maxHeartbeats 1000000
def namedB (f : Nat) (S : List Nat) (s : Sn) (nm name : ByteArray) (a b : Nat) : Bool := decide (nm = name) && visS f S s a b
def aliveB (f : Nat) (S : List Nat) (a b : Nat) : Bool := stOf f S a != 3 && stOf f S b != 2
def dropB (b x : Nat) : Bool := b != 0 && b == x
theorem str_ne {x y : ByteArray} (h : x ≠ y) : ¬ x.toList = y.toList := fun e => h (by
  rw [ByteArray.toList_eq, ByteArray.toList_eq] at e
  cases x; cases y
  exact congrArg ByteArray.mk (Array.toList_inj.1 e))
section
variable {w w' : World} {F : Nat → Prop} {P f n g id a b : Nat} {S : List Nat} {s : Sn} {nm : ByteArray}
theorem named_e (h : Lk w F P f S s n) (he : EA w g id nm a b) (name : ByteArray) : Calls Try.prog 70 #[.pointer (some ⟨g, 0, none⟩), .pointer (some ⟨P, 0, none⟩), .agg #[.int .u64 (s.own : Int), .int .u64 (s.xmin : Int), .int .u64 (s.xmax : Int), .slice s.A n s.c], .string name] w (BoolP w (namedB f S s nm name a b)) := by
  obtain ⟨T, hT⟩ : ∃ T, w.heap.size = T := ⟨_, rfl⟩
  obtain ⟨W1, hW1⟩ : ∃ W1, w.alloc (.cells #[.int .u64 (s.own : Int), .int .u64 (s.xmin : Int), .int .u64 (s.xmax : Int), .slice s.A n s.c] 48) = W1 := ⟨_, rfl⟩
  have hb1 : Below w.heap.size w W1 := by rw [← hW1]; exact bel_alloc _ _
  have hbT : Blk W1 T 48 #[.int .u64 (s.own : Int), .int .u64 (s.xmin : Int), .int .u64 (s.xmax : Int), .slice s.A n s.c] := by rw [← hW1, ← hT]; exact Blk.new w _ _
  have HB1 := Lib.hid hb1
  have CV := Lib.hid (visible_e (h.below hb1) (he.below hb1))
  have x1 := (he.below hb1).c1
  obtain ⟨t0, t1, t2, t3⟩ := cells4 hbT
  have HWS := Lib.hid (And.intro hW1 hT)
  obtain ⟨p, hp⟩ : ∃ p, visS f S s a b = p := ⟨_, rfl⟩
  have HP : Hid (namedB f S s nm name a b = (decide (nm = name) && p)) := Lib.hid (by unfold namedB; rw [hp])
  rw [hp] at CV
  clear h he hb1 hbT hW1 hT hp
  by_cases hq : nm = name
  · subst hq
    have HR : Hid (namedB f S s nm nm a b = p) := Lib.hid (by rw [HP.out]; simp)
    go_enter Try.func70, Try.ntmps70
    go_upto_region 1 with fail
    rw [HWS.out.1, HWS.out.2]
    go_wp2_with fail
    refine CV.out.mono ?_
    rintro e w3 ⟨rfl, hb3⟩
    have HB3 := Lib.hid (HB1.out.trans (hb3.mono HB1.out.size))
    clear hb3
    go_wp2_with fail
    go_ret
    exact ⟨by rw [HR.out]; rfl, HB3.out⟩
  · have HR : Hid (namedB f S s nm name a b = false) := Lib.hid (by rw [HP.out, decide_eq_false hq]; rfl)
    have q1 : ¬ nm.toList = name.toList := str_ne hq
    clear hq
    go_enter Try.func70, Try.ntmps70
    go_upto_region 1 with fail
    rw [HWS.out.1, HWS.out.2]
    go_wp2_with fail
    go_ret
    exact ⟨by rw [HR.out]; rfl, HB1.out⟩
theorem made_e (h : LF w F P f S) (hS : ∀ t ∈ S, 1 ≤ t ∧ t ≤ 3) (he : EA w g id nm a b) : Calls Try.prog 93 #[.pointer (some ⟨g, 0, none⟩), .pointer (some ⟨P, 0, none⟩)] w (BoolP w (stOf f S a != 3)) := by
  have CS := Lib.hid (state_any h hS he.ha)
  have x2 := he.c2
  obtain ⟨q, hq⟩ : ∃ q, stOf f S a = q := ⟨_, rfl⟩
  rw [hq] at CS ⊢
  have HE : Hid (((q : Int) != 3) = (q != 3)) := Lib.hid (by
    by_cases e : q = 3
    · subst e; rfl
    · rw [bne_iff_ne.2 e, bne_iff_ne.2 (show (q : Int) ≠ 3 by omega)])
  clear h hS he hq
  go_enter Try.func93, Try.ntmps93
  go_wp2_with fail
  refine CS.out.mono ?_
  rintro e w3 ⟨rfl, hb3⟩
  have HB3 := Lib.hid hb3
  clear hb3
  go_wp2_with fail
  go_ret
  exact ⟨by rw [← HE.out]; rfl, HB3.out⟩
theorem alive_e (h : LF w F P f S) (hS : ∀ t ∈ S, 1 ≤ t ∧ t ≤ 3) (he : EA w g id nm a b) : Calls Try.prog 84 #[.pointer (some ⟨g, 0, none⟩), .pointer (some ⟨P, 0, none⟩)] w (BoolP w (aliveB f S a b)) := by
  have CM := Lib.hid (made_e h hS he)
  have CS := Lib.hid (fun (W : World) (hW : Below w.heap.size w W) => state_any (h.below hW) hS (x := b) he.hb)
  have HEA := Lib.hid he
  obtain ⟨p, hp⟩ : ∃ p, (stOf f S a != 3) = p := ⟨_, rfl⟩
  obtain ⟨q, hq⟩ : ∃ q, stOf f S b = q := ⟨_, rfl⟩
  have HP : Hid (aliveB f S a b = (p && q != 2)) := Lib.hid (by unfold aliveB; rw [hp, hq])
  rw [hp] at CM
  rw [hq] at CS
  have HE : Hid (((q : Int) != 2) = (q != 2)) := Lib.hid (by
    by_cases e : q = 2
    · subst e; rfl
    · rw [bne_iff_ne.2 e, bne_iff_ne.2 (show (q : Int) ≠ 2 by omega)])
  clear h hS he hp hq
  cases p
  · go_enter Try.func84, Try.ntmps84
    go_wp2_with fail
    refine CM.out.mono ?_
    rintro e w3 ⟨rfl, hb3⟩
    have HB3 := Lib.hid hb3
    clear hb3
    go_wp2_with fail
    go_ret
    exact ⟨by rw [HP.out]; rfl, HB3.out⟩
  · go_enter Try.func84, Try.ntmps84
    go_wp2_with fail
    refine CM.out.mono ?_
    rintro e w3 ⟨rfl, hb3⟩
    have x3 := (HEA.out.below hb3).c3
    have CS2 := Lib.hid (CS.out w3 hb3)
    have HB3 := Lib.hid hb3
    clear hb3
    go_wp2_with fail
    refine CS2.out.mono ?_
    rintro e w4 ⟨rfl, hb4⟩
    have HB4 := Lib.hid (HB3.out.trans (hb4.mono HB3.out.size))
    clear hb4
    go_wp2_with fail
    go_ret
    exact ⟨by rw [HP.out, ← HE.out]; rfl, HB4.out⟩
theorem dropped_e (he : EA w g id nm a b) (x : Nat) : Calls Try.prog 85 #[.pointer (some ⟨g, 0, none⟩), .int .u64 (x : Int)] w fun e w' => e = .returned (.bool (dropB b x)) ∧ w = w' := by
  have x3 := he.c3
  have HB : Hid (dropB b x = (b != 0 && b == x)) := Lib.hid rfl
  clear he
  by_cases h0 : b = 0
  · have q0 : ((b : Int) != 0) = false := by rw [bne_eq_false_iff_eq]; omega
    have HR : Hid (dropB b x = false) := Lib.hid (by rw [HB.out, h0]; rfl)
    clear h0
    go_enter Try.func85, Try.ntmps85
    go_wp2_with fail
    go_ret
    exact ⟨by rw [HR.out]; rfl, rfl⟩
  · have q0 : ((b : Int) != 0) = true := by rw [bne_iff_ne]; omega
    have HE : Hid (dropB b x = ((b : Int) == (x : Int))) := Lib.hid (by
      rw [HB.out, bne_iff_ne.2 h0, Bool.true_and]
      by_cases e : b = x
      · subst e; simp
      · rw [beq_eq_false_iff_ne.2 e, beq_eq_false_iff_ne.2 (show (b : Int) ≠ x by omega)])
    clear h0
    go_enter Try.func85, Try.ntmps85
    go_wp2_with fail
    go_ret
    exact ⟨by rw [HE.out]; rfl, rfl⟩
theorem free_e (h : Lk w F P f S s n) (he : EA w g id nm a b) : Calls Try.prog 87 #[.pointer (some ⟨g, 0, none⟩), .pointer (some ⟨P, 0, none⟩), .agg #[.int .u64 (s.own : Int), .int .u64 (s.xmin : Int), .int .u64 (s.xmax : Int), .slice s.A n s.c]] w (BoolP w (freeE f S s.own s.xmax s.run a b == 0)) := by
  obtain ⟨T, hT⟩ : ∃ T, w.heap.size = T := ⟨_, rfl⟩
  obtain ⟨W1, hW1⟩ : ∃ W1, w.alloc (.cells #[.int .u64 (s.own : Int), .int .u64 (s.xmin : Int), .int .u64 (s.xmax : Int), .slice s.A n s.c] 48) = W1 := ⟨_, rfl⟩
  have hb1 : Below w.heap.size w W1 := by rw [← hW1]; exact bel_alloc _ _
  have hbT : Blk W1 T 48 #[.int .u64 (s.own : Int), .int .u64 (s.xmin : Int), .int .u64 (s.xmax : Int), .slice s.A n s.c] := by rw [← hW1, ← hT]; exact Blk.new w _ _
  have HBD := Lib.hid (bel_trans hb1 (bel_drew W1))
  have CV := Lib.hid (version_any ((he.below hb1).below (bel_drew W1)))
  have CS := Lib.hid (fun (W : World) (hW : Below W1.drew.heap.size W1.drew W) => free_s (((h.below hb1).below (bel_drew W1)).below hW) he.ha he.hb)
  have HBT := Lib.hid (Blk.below hbT (bel_drew W1) (Blk.lt hbT))
  have HX := Lib.hid (cells4 hbT)
  obtain ⟨x0, x1, x2, x3⟩ := HX.out
  have HWS := Lib.hid (And.intro hW1 hT)
  obtain ⟨p, hp⟩ : ∃ p, freeE f S s.own s.xmax s.run a b = p := ⟨_, rfl⟩
  rw [hp] at CS ⊢
  clear h he hb1 hbT hW1 hT hp
  go_enter Try.func87, Try.ntmps87
  go_upto_region 1 with fail
  rw [HWS.out.1, HWS.out.2]
  go_region_held3 (fun w' => w'.cell? ⟨T, 0, none⟩ = some (.int .u64 (s.own : Int)) ∧ w'.cell? ⟨T, 1, none⟩ = some (.int .u64 (s.xmin : Int)) ∧ w'.cell? ⟨T, 2, none⟩ = some (.int .u64 (s.xmax : Int)) ∧ w'.cell? ⟨T, 3, none⟩ = some (.slice s.A n s.c)) (first | with_reducible exact X4.out | with_reducible exact X3.out | with_reducible exact HX.out | go_keep)
    (first
      | (go_at_call 23; refine (CS.out _ HB3.out).mono ?_; rintro e w4 ⟨rfl, hb4⟩; have X4 := Lib.hid (cells4 (HT3.out.below hb4 HT3.out.lt)); have HB4 := Lib.hid (HBD.out.trans ((HB3.out.trans (hb4.mono HB3.out.size)).mono HBD.out.size)))
      | (go_at_call 86; refine CV.out.mono ?_; rintro e w3 ⟨rfl, hb3⟩; have HT3 := Lib.hid (HBT.out.below hb3 HBT.out.lt); have X3 := Lib.hid (cells4 HT3.out); have HB3 := Lib.hid hb3))
  go_wp2_with fail
  go_ret
  exact ⟨rfl, HB4.out⟩
end
end Go.Proofs.Ytnpmjljpaaaljaa.Bok
