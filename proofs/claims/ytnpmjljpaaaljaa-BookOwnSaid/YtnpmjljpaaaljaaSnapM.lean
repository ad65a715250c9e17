/- lapidarylaw10.play takes two snapshots at once: what is there behind each operation. -/
import Derived.Test.YtnpmjljpaaaljaaSnapQ
import Derived.Test.YtnpmjljpaaaljaaRegI
import Derived.Deep.RegionHeld3
namespace Go.Proofs.Ytnpmjljpaaaljaa.Clg
open Go.ChangeMaps Go.MapKept Go.RowKit Go.Proofs.Ytnpmjljpaaaljaa.Nums Go.Proofs.Ytnpmjljpaaaljaa.Mem
set_option linter.unusedVariables false
set_option linter.unusedSimpArgs false
set_option maxRecDepth 100000
def zS : Array Value := #[.int .u64 0, .int .u64 0, .int .u64 0, .slice none 0 0]
def zR : Array Value := #[.int .u64 0, .int .u64 0, .slice none 0 0]
def sS (y xm xx rn : Nat) (A : Option Addr) (c : Nat) : Array Value := #[.int .u64 (y : Int), .int .u64 (xm : Int), .int .u64 (xx : Int), .slice A rn c]
def sR (y xx rn : Nat) (B : Option Addr) (e : Nat) : Array Value := #[.int .u64 (y : Int), .int .u64 (xx : Int), .slice B rn e]
theorem sS_one (y xm xx rn : Nat) (A : Option Addr) (c : Nat) : (sS y xm xx rn A c).all (·.oneCell') = true := by simp [sS, Value.oneCell']
theorem sR_one (y xx rn : Nat) (B : Option Addr) (e : Nat) : (sR y xx rn B e).all (·.oneCell') = true := by simp [sR, Value.oneCell']
theorem setRow_far {w : World} {g h : Nat} {cells : Array Value} (hne : g ≠ h) : (w.setRow h cells).heap[g]? = w.heap[g]? := by
  unfold World.setRow
  simp [Array.getElem?_modify, hne, Ne.symm hne]
theorem setRow_size (w : World) (h : Nat) (cells : Array Value) : (w.setRow h cells).heap.size = w.heap.size := by
  unfold World.setRow
  simp
theorem row_far {w : World} {g h : Nat} {t : TypeId} {cs cells : Array Value} (hb : Blk w g t cs) (hne : g ≠ h) : Blk (w.setRow h cells) g t cs := (setRow_far hne).trans hb
theorem row_at {w : World} {g : Nat} {t : TypeId} {cs cells : Array Value} (hb : Blk w g t cs) : Blk (w.setRow g cells) g t cells := by
  unfold Blk at hb ⊢
  unfold World.setRow
  simp [Array.getElem?_modify, hb]
theorem bel_row {U w : World} {g : Nat} {cells : Array Value} (h : Below U.heap.size U w) (hg : U.heap.size ≤ g) : Below U.heap.size U (w.setRow g cells) :=
  ⟨h.os, h.tape, h.output, by rw [setRow_size]; exact h.size, fun k hk => (setRow_far (by omega)).trans (h.block k hk)⟩
theorem slU_row {w : World} {g : Nat} {cells : Array Value} {A : Option Addr} {c : Nat} {R : List Nat} (h : SlU w A c R) (hne : ∀ ad, 0 < R.length → A = some ad → ad.block ≠ g) : SlU (w.setRow g cells) A c R :=
  h.keep' fun ad h0 e => ⟨setRow_far (hne ad h0 e), by
    rw [setRow_size]
    obtain ⟨ad', e', hat⟩ := Sl.at_ h h0
    rw [e] at e'; injection e' with e'; subst e'
    exact hat.1⟩
theorem SlU.lt {w : World} {A : Option Addr} {c : Nat} {R : List Nat} (h : SlU w A c R) (ad : Addr) (h0 : 0 < R.length) (e : A = some ad) : ad.block < w.heap.size := by
  obtain ⟨ad', e', hat⟩ := Sl.at_ h h0
  rw [e] at e'; injection e' with e'; subst e'
  exact hat.1
section
variable {U w w' : World} {y xm xx rn : Nat} {RX : List Nat} {b1 b2 b3 b4 b5 b6 : Bool} {v1 v2 v3 v4 : Value} {A B : Option Addr} {c e g g' : Nat}
structure Mk (U w : World) (y xm xx rn : Nat) (RX : List Nat) (b1 b2 b3 b4 b5 b6 : Bool) (v1 v2 v3 v4 : Value) (A : Option Addr) (c : Nat) (B : Option Addr) (e g g' : Nat) : Prop where
  bel : Below U.heap.size U w
  c1 : b1 = true → v1 = .agg (sS y xm xx rn A c) ∧ SlU w A c RX ∧ ∀ ad, 0 < RX.length → A = some ad → U.heap.size ≤ ad.block
  c2 : b2 = true → v2 = .agg (sR y xx rn B e) ∧ SlU w B e RX ∧ ∀ ad, 0 < RX.length → B = some ad → U.heap.size ≤ ad.block
  s1 : b3 = true → v3 = .pointer (some ⟨g, 0, none⟩) ∧ U.heap.size ≤ g ∧ Blk w g 48 (if b5 then sS y xm xx rn A c else zS)
  s2 : b4 = true → v4 = .pointer (some ⟨g', 0, none⟩) ∧ U.heap.size ≤ g' ∧ Blk w g' 52 (if b6 then sR y xx rn B e else zR)
  n1 : b1 = true → b3 = true → ∀ ad, 0 < RX.length → A = some ad → ad.block ≠ g
  n2 : b2 = true → b3 = true → ∀ ad, 0 < RX.length → B = some ad → ad.block ≠ g
  n3 : b1 = true → b4 = true → ∀ ad, 0 < RX.length → A = some ad → ad.block ≠ g'
  n4 : b2 = true → b4 = true → ∀ ad, 0 < RX.length → B = some ad → ad.block ≠ g'
  o1 : b5 = true → b1 = true ∧ b3 = true
  o2 : b6 = true → b2 = true ∧ b4 = true
def MM (U w : World) (y xm xx rn : Nat) (RX : List Nat) (b1 b2 b3 b4 b5 b6 : Bool) (v1 v2 v3 v4 : Value) : Prop := ∃ A c B e g g', Mk U w y xm xx rn RX b1 b2 b3 b4 b5 b6 v1 v2 v3 v4 A c B e g g'
theorem mm_new (U : World) (y xm xx rn : Nat) (RX : List Nat) (v1 v2 v3 v4 : Value) : MM U U.drew y xm xx rn RX false false false false false false v1 v2 v3 v4 :=
  ⟨none, 0, none, 0, 0, 0, ⟨rfl, rfl, rfl, Nat.le_refl _, fun _ _ => rfl⟩, nofun, nofun, nofun, nofun, nofun, nofun, nofun, nofun, nofun, nofun⟩
theorem Mk.below (h : Mk U w y xm xx rn RX b1 b2 b3 b4 b5 b6 v1 v2 v3 v4 A c B e g g') (hb : Below w.heap.size w w') : Mk U w' y xm xx rn RX b1 b2 b3 b4 b5 b6 v1 v2 v3 v4 A c B e g g' :=
  ⟨h.bel.trans (hb.mono h.bel.size), fun k => ⟨(h.c1 k).1, Sl.on (h.c1 k).2.1 hb, (h.c1 k).2.2⟩, fun k => ⟨(h.c2 k).1, Sl.on (h.c2 k).2.1 hb, (h.c2 k).2.2⟩,
    fun k => ⟨(h.s1 k).1, (h.s1 k).2.1, (h.s1 k).2.2.below hb (h.s1 k).2.2.lt⟩, fun k => ⟨(h.s2 k).1, (h.s2 k).2.1, (h.s2 k).2.2.below hb (h.s2 k).2.2.lt⟩, h.n1, h.n2, h.n3, h.n4, h.o1, h.o2⟩
theorem mm_c1 (h : MM U w y xm xx rn RX false b2 b3 b4 b5 b6 v1 v2 v3 v4) {A : Option Addr} {c : Nat} (hs : SlU w' A c RX) (hf : ∀ ad, 0 < RX.length → A = some ad → w.heap.size ≤ ad.block) (hb : Below w.heap.size w w') : MM U w' y xm xx rn RX true b2 b3 b4 b5 b6 (.agg (sS y xm xx rn A c)) v2 v3 v4 := by
  obtain ⟨A0, c0, B, e, g, g', h⟩ := h
  have h' := h.below hb
  have h5 : b5 = false := by cases b5; rfl; exact absurd (h.o1 rfl).1 (by simp)
  subst h5
  exact ⟨A, c, B, e, g, g', h'.bel, fun _ => ⟨rfl, hs, fun ad h0 e => Nat.le_trans h.bel.size (hf ad h0 e)⟩, h'.c2, h'.s1, h'.s2,
    fun _ k ad h0 e => by have := hf ad h0 e; have := (h.s1 k).2.2.lt; omega, h'.n2, fun _ k ad h0 e => by have := hf ad h0 e; have := (h.s2 k).2.2.lt; omega, h'.n4, nofun, h'.o2⟩
theorem mm_c2 (h : MM U w y xm xx rn RX b1 false b3 b4 b5 b6 v1 v2 v3 v4) {B : Option Addr} {e : Nat} (hs : SlU w' B e RX) (hf : ∀ ad, 0 < RX.length → B = some ad → w.heap.size ≤ ad.block) (hb : Below w.heap.size w w') : MM U w' y xm xx rn RX b1 true b3 b4 b5 b6 v1 (.agg (sR y xx rn B e)) v3 v4 := by
  obtain ⟨A, c, B0, e0, g, g', h⟩ := h
  have h' := h.below hb
  have h5 : b6 = false := by cases b6; rfl; exact absurd (h.o2 rfl).1 (by simp)
  subst h5
  exact ⟨A, c, B, e, g, g', h'.bel, h'.c1, fun _ => ⟨rfl, hs, fun ad h0 e => Nat.le_trans h.bel.size (hf ad h0 e)⟩, h'.s1, h'.s2,
    h'.n1, fun _ k ad h0 e => by have := hf ad h0 e; have := (h.s1 k).2.2.lt; omega, h'.n3, fun _ k ad h0 e => by have := hf ad h0 e; have := (h.s2 k).2.2.lt; omega, h'.o1, nofun⟩
theorem mm_a1 (h : MM U w y xm xx rn RX b1 b2 false b4 b5 b6 v1 v2 v3 v4) : MM U (w.alloc (.cells zS 48)) y xm xx rn RX b1 b2 true b4 b5 b6 v1 v2 (.pointer (some ⟨w.heap.size, 0, none⟩)) v4 := by
  obtain ⟨A, c, B, e, g0, g', h⟩ := h
  have h' := h.below (bel_alloc w (.cells zS 48))
  have h5 : b5 = false := by cases b5; rfl; exact absurd (h.o1 rfl).2 (by simp)
  subst h5
  exact ⟨A, c, B, e, w.heap.size, g', h'.bel, h'.c1, h'.c2, fun _ => ⟨rfl, h.bel.size, Blk.new w _ _⟩, h'.s2,
    fun k _ ad h0 e => by have := (h.c1 k).2.1.lt ad h0 e; omega, fun k _ ad h0 e => by have := (h.c2 k).2.1.lt ad h0 e; omega, h'.n3, h'.n4, nofun, h'.o2⟩
theorem mm_a2 (h : MM U w y xm xx rn RX b1 b2 b3 false b5 b6 v1 v2 v3 v4) : MM U (w.alloc (.cells zR 52)) y xm xx rn RX b1 b2 b3 true b5 b6 v1 v2 v3 (.pointer (some ⟨w.heap.size, 0, none⟩)) := by
  obtain ⟨A, c, B, e, g, g0, h⟩ := h
  have h' := h.below (bel_alloc w (.cells zR 52))
  have h5 : b6 = false := by cases b6; rfl; exact absurd (h.o2 rfl).2 (by simp)
  subst h5
  exact ⟨A, c, B, e, g, w.heap.size, h'.bel, h'.c1, h'.c2, h'.s1, fun _ => ⟨rfl, h.bel.size, Blk.new w _ _⟩,
    h'.n1, h'.n2, fun k _ ad h0 e => by have := (h.c1 k).2.1.lt ad h0 e; omega, fun k _ ad h0 e => by have := (h.c2 k).2.1.lt ad h0 e; omega, h'.o1, nofun⟩
theorem mm_s1 (h : MM U w y xm xx rn RX true b2 true b4 false b6 v1 v2 v3 v4) : ∃ A c g, v1 = .agg (sS y xm xx rn A c) ∧ v3 = .pointer (some ⟨g, 0, none⟩) ∧ Blk w g 48 zS ∧ MM U (w.setRow g (sS y xm xx rn A c)) y xm xx rn RX true b2 true b4 true b6 v1 v2 v3 v4 := by
  obtain ⟨A, c, B, e, g, g', h⟩ := h
  obtain ⟨k1, k2, k3⟩ := h.c1 rfl
  obtain ⟨j1, j2, j3⟩ := h.s1 rfl
  have j3 : Blk w g 48 zS := j3
  refine ⟨A, c, g, k1, j1, j3, A, c, B, e, g, g', bel_row h.bel j2, fun _ => ⟨k1, slU_row k2 (h.n1 rfl rfl), k3⟩, fun k => ⟨(h.c2 k).1, slU_row (h.c2 k).2.1 (h.n2 k rfl), (h.c2 k).2.2⟩, fun _ => ⟨j1, j2, row_at j3⟩, fun k => ⟨(h.s2 k).1, (h.s2 k).2.1, row_far (h.s2 k).2.2 ((h.s2 k).2.2.ne_ j3 (by decide))⟩, h.n1, h.n2, h.n3, h.n4, fun _ => ⟨rfl, rfl⟩, h.o2⟩
theorem mm_s2 (h : MM U w y xm xx rn RX b1 true b3 true b5 false v1 v2 v3 v4) : ∃ B e g', v2 = .agg (sR y xx rn B e) ∧ v4 = .pointer (some ⟨g', 0, none⟩) ∧ Blk w g' 52 zR ∧ MM U (w.setRow g' (sR y xx rn B e)) y xm xx rn RX b1 true b3 true b5 true v1 v2 v3 v4 := by
  obtain ⟨A, c, B, e, g, g', h⟩ := h
  obtain ⟨k1, k2, k3⟩ := h.c2 rfl
  obtain ⟨j1, j2, j3⟩ := h.s2 rfl
  have j3 : Blk w g' 52 zR := j3
  refine ⟨B, e, g', k1, j1, j3, A, c, B, e, g, g', bel_row h.bel j2, fun k => ⟨(h.c1 k).1, slU_row (h.c1 k).2.1 (h.n3 k rfl), (h.c1 k).2.2⟩, fun _ => ⟨k1, slU_row k2 (h.n4 rfl rfl), k3⟩, fun k => ⟨(h.s1 k).1, (h.s1 k).2.1, row_far (h.s1 k).2.2 ((h.s1 k).2.2.ne_ j3 (by decide))⟩, fun _ => ⟨j1, j2, row_at j3⟩, h.n1, h.n2, h.n3, h.n4, h.o1, fun _ => ⟨rfl, rfl⟩⟩
end
end Go.Proofs.Ytnpmjljpaaaljaa.Clg
