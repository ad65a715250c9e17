/- Maps with bool elements; a log beside a map. -/
import Derived.Test.YtaadkgcpkghgmaaClogQ
namespace Go.Proofs.Ytaadkgcpkghgmaa.Clg
open Go.ChangeMaps Go.MapKept Go.RowKit Go.Proofs.Ytaadkgcpkghgmaa.Nums Go.Proofs.Ytaadkgcpkghgmaa.Mem
set_option linter.unusedVariables false
set_option linter.unusedSimpArgs false
set_option maxRecDepth 100000
theorem isKeyU' (x : Nat) : WideAt.IsKeyLit (.int .u64 (x : Int)) := trivial
def BoolD (w : World) (M n : Nat) (D : DataW Unit) : Prop := w.ownsMap Try.prog 28 (plainElem Try.prog 4) M n D
theorem BoolD.keep {w w' : World} {M n : Nat} {D : DataW Unit} (h : BoolD w M n D) (hk : w'.heap[M]? = w.heap[M]?) : BoolD w' M n D := by
  obtain ⟨es, clock, hb, rest⟩ := h
  exact ⟨es, clock, hk.trans hb, rest⟩
theorem plainElem_bool_inv {v : Value} {b : Bool} {ps : List MemPlace} (h : plainElem (H := Unit) Try.prog 4 v = some (.lit (.bool b), ps)) : v = .bool b := by
  have hu := Try.underlying4
  unfold plainElem at h
  rw [hu] at h
  cases v <;> simp at h
  rw [h.1]
theorem AL.mapped {w0 w w' : World} {K : Nat → Prop} {P f M : Nat} {S : List Nat} (h : AL w0 w K P f S) (hK : K M) (hM : w0.heap.size ≤ M) (ht : w.mapTurned w' M) : AL w0 w' K P f S := by
  obtain ⟨F, h1, h2, h3, h4⟩ := h
  have hT : Turn (fun g => g = M) w w' := turned_turn ht rfl
  exact ⟨F, h1.turn hT (fun g hg e => (h3 M hK).1 (e ▸ hg)), h2, fun g hg => ⟨(h3 g hg).1, Nat.lt_of_lt_of_le (h3 g hg).2 hT.size⟩, h4.trans (hT.below h4.size (fun g hg => by rw [hg]; exact hM))⟩
theorem BoolD.gets {w : World} {M n : Nat} {D : DataW Unit} (h : BoolD w M n D) {x : Nat} (hx : x < 18446744073709551616) :
    ∃ b, (Instr.lookup 75 (.map (some M)) (.int .u64 (x : Int)) false).run Try.prog w = .ok (.bool b) w := by
  obtain ⟨v, ps, hrun, hv⟩ := World.ownsMap.lookup h lawU Try.underlying75 (Try.zeroValue4 w) (plainElem_bool Try.underlying4 false) (Maps.keyOf_int_mk Try.underlying28 (wfU hx))
  have hu := Try.underlying4
  unfold plainElem at hv
  rw [hu] at hv
  cases v <;> simp at hv
  exact ⟨_, hrun⟩
theorem BoolD.not_cells {w : World} {M n : Nat} {D : DataW Unit} (h : BoolD w M n D) {g : Nat} {t : TypeId} {cs : Array Value} {fz : Nat × Nat} (hb : w.heap[g]? = some (.cells cs t fz)) : g ≠ M := by
  rintro rfl
  obtain ⟨es, clock, hm, _⟩ := h
  rw [hm] at hb
  cases hb
theorem BoolD.notOwn {w : World} {M n : Nat} {D : DataW Unit} (h : BoolD w M n D) {B sz k : Nat} {e : TypeId} {v : Value} {xs : List Value} (ho : w.ownsRow B e sz v k xs) : v.ownBlock ≠ some M := by
  rcases ho.2 with ⟨h1, _⟩ | ⟨g, cap, cur, hv, _, hc, _⟩
  · rw [h1]; simp [Value.ownBlock]
  · rw [hv]
    intro e
    have : g = M := by simpa [Value.ownBlock] using e
    exact h.not_cells hc this
theorem BoolD.lt {w : World} {M n : Nat} {D : DataW Unit} (h : BoolD w M n D) : M < w.heap.size := by
  obtain ⟨es, clock, hm, _⟩ := h
  exact (Array.getElem?_eq_some_iff.1 hm).1
end Go.Proofs.Ytaadkgcpkghgmaa.Clg
