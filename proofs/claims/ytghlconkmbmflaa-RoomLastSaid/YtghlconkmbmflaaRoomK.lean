/- lapidarylaw06.awake; two maps side by side. -/
import Derived.Test.YtghlconkmbmflaaRoomR
namespace Go.Proofs.Ytghlconkmbmflaa.Room
open Go.RowKit Go.Proofs.Ytghlconkmbmflaa.Nums Go.Proofs.Ytghlconkmbmflaa.Mem
set_option linter.unusedVariables false
set_option linter.unusedSimpArgs false
set_option maxRecDepth 100000
def T3 : List Int := [5, 50, 50]
def lit3 : Array Value := #[.int .i64 5, .int .i64 50, .int .i64 50]
theorem awake_step (k : Nat) (hk : k < 3) : ∃ x : Int, lit3[k]? = some (.int .i64 x) ∧ setR (T3.take k) k x = (0, T3.take (k + 1)) ∧ (T3.take k).length = k := by
  match k, hk with
  | 0, _ => exact ⟨5, rfl, by decide, rfl⟩
  | 1, _ => exact ⟨50, rfl, by decide, rfl⟩
  | 2, _ => exact ⟨50, rfl, by decide, rfl⟩
theorem awake_any (w : World) : Calls Try.prog 7 #[] w fun e w' => e = .returned (.bool true) ∧ Below w.heap.size w w' := by
  have HM : Hid (∃ A c, MapAt ((w.alloc (.cells #[.slice none 0 0] 49)).alloc (.cells lit3 3)) w.heap.size 49 w.heap.size A c (T3.take 0) ∧ Blk ((w.alloc (.cells #[.slice none 0 0] 49)).alloc (.cells lit3 3)) (w.heap.size + 1) 3 lit3 ∧ (Value.slice A (T3.take 0).length c).ownBlock ≠ some (w.heap.size + 1) ∧ Below w.heap.size w ((w.alloc (.cells #[.slice none 0 0] 49)).alloc (.cells lit3 3))) := by
    have h0 := map_new w 49
    refine Lib.hid ⟨none, 0, ⟨h0.blk.alloc _, h0.own.alloc _, h0.ge⟩, ?_, by simp [Value.ownBlock], (bel_alloc _ _).alloc (by rw [size_alloc]; omega) _⟩
    have := Blk.new (w.alloc (.cells #[.slice none 0 0] 49)) 3 lit3
    rw [size_alloc] at this
    exact this
  have HF1 : Hid (findR (T3.take 3) 6 = (1, true)) := Lib.hid (by decide)
  have HF2 : Hid (findR (T3.take 3) 51 = (0, false)) := Lib.hid (by decide)
  go_enter Try.func7, Try.ntmps7
  go_wp2_with fail
  refine (new_any _).mono ?_
  rintro e w' ⟨rfl, rfl⟩
  go_wp2_with fail
  go_loopw [11] (fun i wr => ∃ k : Nat, k ≤ 3 ∧ i = .int .i64 k ∧ ∃ A c, MapAt wr w.heap.size 49 w.heap.size A c (T3.take k) ∧ Blk wr (w.heap.size + 1) 3 lit3 ∧ (Value.slice A (T3.take k).length c).ownBlock ≠ some (w.heap.size + 1) ∧ Below w.heap.size w wr) (fun i _ => 3 - (intOf i).toNat)
  case atStart => exact ⟨0, by omega, rfl, HM.out⟩
  case round =>
    obtain ⟨k, hk, rfl, A, c, hM, hB, hO, hb⟩ := hrel
    have H := Lib.hid hM
    have HB := Lib.hid hB
    have HO := Lib.hid hO
    have HL := Lib.hid hb
    have hsz := hb.size
    clear hM hB hO hb HM
    by_cases hlt : k < 3
    · obtain ⟨x, hx, hs, hl⟩ := awake_step k hlt
      have x0 := (HB.out.cell k).trans hx
      have HS := Lib.hid hs
      have hl3 : (T3.take k).length ≤ 256 := by omega
      clear hx hs hl
      have hlt' : (k : Int) < 3 := by omega
      go_wp2_with fail
      refine (set_any H.out hl3 hsz _ _).mono ?_
      intro e w1 hp
      unfold SPost at hp
      rw [HS.out] at hp
      obtain ⟨rfl, A1, c1, hM1, hF1⟩ := hp
      have hP1 : w.heap.size + 1 ≠ w.heap.size := by omega
      have HB1 := Lib.hid (hF1.blk HB.out hP1 HO.out)
      have hO1 : (Value.slice A1 (T3.take (k + 1)).length c1).ownBlock ≠ some (w.heap.size + 1) := by
        intro e
        rcases hF1.lies with e1 | ⟨g, e1, hg⟩
        · exact HO.out (e1.symm.trans e)
        · have e2 := e1.symm.trans e
          injection e2 with e2
          have := HB.out.lt
          omega
      have HL1 := Lib.hid (HL.out.trans (hF1.below hsz (Nat.le_refl _) H.out.own_ge))
      have HM1 := Lib.hid hM1
      have HO1 := Lib.hid hO1
      clear hM1 hF1 hO1
      go_wp2_with fail
      go_roundw
      case rel => exact ⟨k + 1, by omega, by go_num, A1, c1, HM1.out, HB1.out, HO1.out, HL1.out⟩
      case measure => simp [intOf]; omega
    · obtain rfl : k = 3 := by omega
      go_wp2_with fail
      refine (find_any H.out _).mono ?_
      rintro e w1 ⟨rfl, rfl⟩
      rw [HF1.out]
      go_wp2_with fail
      refine (find_any H.out _).mono ?_
      rintro e w1 ⟨rfl, rfl⟩
      rw [HF2.out]
      go_wp2_with fail
      go_ret
      exact ⟨rfl, HL.out⟩
/-- a slice's block isn't another's -/
def Apart (v u : Value) : Prop := ∀ g, v.ownBlock = some g → u.ownBlock ≠ some g
/-- the program's map at P with rooms L, the document's at Q with rooms K -/
def Two (w : World) (base P Q : Nat) (L K : List Int) : Prop :=
  base ≤ w.heap.size ∧ ∃ A c B d, MapAt w base 49 P A c L ∧ MapAt w base 29 Q B d K ∧ Apart (.slice A L.length c) (.slice B K.length d)
/-- nothing has turned but those two maps -/
def Besides (base P Q : Nat) (w w' : World) : Prop := Below base w w' ∧ ∀ g t cs, Blk w g t cs → t ≠ 3 → g ≠ P → g ≠ Q → Blk w' g t cs
section
variable {w w' : World} {base P Q : Nat} {L K L' : List Int} {A A' : Option Addr} {c c' : Nat}
theorem far_two {v v' : Value} {B : Option Addr} {d : Nat} {T : TypeId} {P Q : Nat} (hT : T ≠ 3) (hF : Far w w' P v v') (hv : ∀ t cs g, Blk w g t cs → t ≠ 3 → v.ownBlock ≠ some g) (hx : MapAt w base T Q B d K) (hPQ : Q ≠ P) (hP : ∃ t cs, Blk w P t cs ∧ t ≠ 3) (ha : Apart (.slice B K.length d) v) :
    MapAt w' base T Q B d K ∧ Apart (.slice B K.length d) v' := by
  obtain ⟨t, cs, hb, ht⟩ := hP
  refine ⟨⟨hF.blk hx.blk hPQ (hv _ _ _ hx.blk hT), hF.own hx.own (own_blk_ne hx.own hb (Ne.symm ht)) ha, hx.ge⟩, fun g hg e => ?_⟩
  rcases hF.lies with e1 | ⟨g', e1, hg'⟩
  · exact ha g hg (e1.symm.trans e)
  · have e2 := e1.symm.trans e
    injection e2 with e2
    have := (World.ownsRow.lt hx.own g hg).2
    omega
theorem far_besides {v v' : Value} (hF : Far w w' P v v') (hB : base ≤ w.heap.size) (hP : base ≤ P) (hv : ∀ g, v.ownBlock = some g → base ≤ g) (hn : ∀ t cs g, Blk w g t cs → t ≠ 3 → v.ownBlock ≠ some g) : Besides base P Q w w' :=
  ⟨hF.below hB hP hv, fun g t cs hb ht h1 _ => hF.blk hb h1 (hn _ _ _ hb ht)⟩
theorem far_besides' {v v' : Value} (hF : Far w w' Q v v') (hB : base ≤ w.heap.size) (hP : base ≤ Q) (hv : ∀ g, v.ownBlock = some g → base ≤ g) (hn : ∀ t cs g, Blk w g t cs → t ≠ 3 → v.ownBlock ≠ some g) : Besides base P Q w w' :=
  ⟨hF.below hB hP hv, fun g t cs hb ht _ h1 => hF.blk hb h1 (hn _ _ _ hb ht)⟩
theorem Besides.trans {a b c : World} (h : Besides base P Q a b) (k : Besides base P Q b c) : Besides base P Q a c :=
  ⟨h.1.trans k.1, fun g t cs hb ht h1 h2 => k.2 g t cs (h.2 g t cs hb ht h1 h2) ht h1 h2⟩
theorem Apart.symm {v u : Value} (h : Apart v u) : Apart u v := fun g hg e => h g e hg
theorem set_two (h : Two w base P Q L K) (hL : L.length ≤ 256) (p r : Int) :
    Calls Try.prog 9 #[.pointer (some ⟨P, 0, none⟩), .int .i64 p, .int .i64 r] w fun e w' => e = .returned (.int .i64 (setR L p r).1) ∧ Two w' base P Q (setR L p r).2 K ∧ Besides base P Q w w' := by
  obtain ⟨hB, A, c, B, d, hM, hX, ha⟩ := h
  refine (set_any hM hL hB p r).mono ?_
  rintro e w' ⟨rfl, A1, c1, hM1, hF⟩
  have hn : ∀ t cs g, Blk w g t cs → t ≠ 3 → (Value.slice A L.length c).ownBlock ≠ some g := fun t cs g hb ht => own_blk_ne hM.own hb (Ne.symm ht)
  obtain ⟨hX1, ha1⟩ := far_two (by decide) hF hn hX (hX.blk.ne_ hM.blk (by decide)) ⟨_, _, hM.blk, by decide⟩ ha.symm
  exact ⟨rfl, ⟨Nat.le_trans hB hF.size, A1, c1, B, d, hM1, hX1, ha1.symm⟩, far_besides hF hB hM.ge hM.own_ge hn⟩
theorem rset_two (h : Two w base P Q L K) (hL : K.length ≤ 256) (p r : Int) :
    Calls Try.prog 10 #[.pointer (some ⟨Q, 0, none⟩), .int .i64 p, .int .i64 r] w fun e w' => e = .returned (.int .i64 (setR K p r).1) ∧ Two w' base P Q L (setR K p r).2 ∧ Besides base P Q w w' := by
  obtain ⟨hB, A, c, B, d, hM, hX, ha⟩ := h
  refine (rset_any hX hL hB p r).mono ?_
  rintro e w' ⟨rfl, A1, c1, hX1, hF⟩
  have hn : ∀ t cs g, Blk w g t cs → t ≠ 3 → (Value.slice B K.length d).ownBlock ≠ some g := fun t cs g hb ht => own_blk_ne hX.own hb (Ne.symm ht)
  obtain ⟨hM1, ha1⟩ := far_two (by decide) hF hn hM (hM.blk.ne_ hX.blk (by decide)) ⟨_, _, hX.blk, by decide⟩ ha
  exact ⟨rfl, ⟨Nat.le_trans hB hF.size, A, c, A1, c1, hM1, hX1, ha1⟩, far_besides' hF hB hX.ge hX.own_ge hn⟩
theorem find_two (h : Two w base P Q L K) (need : Int) :
    Calls Try.prog 11 #[.pointer (some ⟨P, 0, none⟩), .int .i64 need] w fun e w' => e = .returned (.tuple #[.int .i64 (findR L need).1, .bool (findR L need).2]) ∧ w = w' := by
  obtain ⟨hB, A, c, B, d, hM, hX, ha⟩ := h
  exact find_any hM need
theorem rfind_two (h : Two w base P Q L K) (need : Int) :
    Calls Try.prog 12 #[.pointer (some ⟨Q, 0, none⟩), .int .i64 need] w fun e w' => e = .returned (.tuple #[.int .i64 (findR K need).1, .bool (findR K need).2]) ∧ w = w' := by
  obtain ⟨hB, A, c, B, d, hM, hX, ha⟩ := h
  exact rfind_any hX need
theorem get_two (h : Two w base P Q L K) (p : Int) :
    Calls Try.prog 13 #[.pointer (some ⟨P, 0, none⟩), .int .i64 p] w fun e w' => e = .returned (.int .i64 (getR L p)) ∧ w = w' := by
  obtain ⟨hB, A, c, B, d, hM, hX, ha⟩ := h
  exact get_any hM p
theorem rget_two (h : Two w base P Q L K) (p : Int) :
    Calls Try.prog 14 #[.pointer (some ⟨Q, 0, none⟩), .int .i64 p] w fun e w' => e = .returned (.int .i64 (getR K p)) ∧ w = w' := by
  obtain ⟨hB, A, c, B, d, hM, hX, ha⟩ := h
  exact rget_any hX p
theorem pages_two (h : Two w base P Q L K) :
    Calls Try.prog 15 #[.pointer (some ⟨P, 0, none⟩)] w fun e w' => e = .returned (.int .i64 L.length) ∧ w = w' := by
  obtain ⟨hB, A, c, B, d, hM, hX, ha⟩ := h
  exact pages_any hM
end
end Go.Proofs.Ytghlconkmbmflaa.Room
