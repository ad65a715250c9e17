/- What play makes: two logs, and snapshots of them; what stays. -/
import Derived.Test.YtnpmjljpaaaljaaSnapL
import Derived.Test.YtnpmjljpaaaljaaClogQ
namespace Go.Proofs.Ytnpmjljpaaaljaa.Clg
open Go.ChangeMaps Go.MapKept Go.RowKit Go.Proofs.Ytnpmjljpaaaljaa.Nums Go.Proofs.Ytnpmjljpaaaljaa.Mem
set_option linter.unusedVariables false
set_option linter.unusedSimpArgs false
set_option maxRecDepth 100000
/-- a snapshot: the program's slice, the document's -/
structure Sp where
  own : Nat
  xmin : Nat
  xmax : Nat
  run : List Nat
  A : Option Addr
  c : Nat
  B : Option Addr
  d : Nat
def Sp.ca (s : Sp) : List Value := [.int .u64 (s.own : Int), .int .u64 (s.xmin : Int), .int .u64 (s.xmax : Int), .slice s.A s.run.length s.c]
def Sp.cb (s : Sp) : List Value := [.int .u64 (s.own : Int), .int .u64 (s.xmax : Int), .slice s.B s.run.length s.d]
def cas (l : List Sp) : List Value := l.flatMap Sp.ca
def cbs (l : List Sp) : List Value := l.flatMap Sp.cb
theorem cas_len (l : List Sp) : (cas l).length = l.length * 4 := by
  induction l with
  | nil => rfl
  | cons o l ih => show (o.ca ++ cas l).length = _; rw [List.length_append, ih, List.length_cons]; show 4 + _ = _; omega
theorem cbs_len (l : List Sp) : (cbs l).length = l.length * 3 := by
  induction l with
  | nil => rfl
  | cons o l ih => show (o.cb ++ cbs l).length = _; rw [List.length_append, ih, List.length_cons]; show 3 + _ = _; omega
theorem cas_app (a b : List Sp) : cas (a ++ b) = cas a ++ cas b := by simp [cas]
theorem cbs_app (a b : List Sp) : cbs (a ++ b) = cbs a ++ cbs b := by simp [cbs]
theorem cas_at : ∀ (l : List Sp) (k : Nat) (o : Sp), l[k]? = some o → ∀ j, j < 4 → (cas l)[k * 4 + j]? = o.ca[j]?
  | [], k, o, h, j, hj => by simp at h
  | y :: l, 0, o, h, j, hj => by
    simp at h; subst h
    show (y.ca ++ cas l)[0 * 4 + j]? = _
    rw [Nat.zero_mul, Nat.zero_add, List.getElem?_append_left (show j < y.ca.length from hj)]
  | y :: l, k + 1, o, h, j, hj => by
    show (y.ca ++ cas l)[(k + 1) * 4 + j]? = _
    have e : y.ca.length = 4 := rfl
    rw [List.getElem?_append_right (by omega), e, show (k + 1) * 4 + j - 4 = k * 4 + j by omega]
    exact cas_at l k o (by simpa using h) j hj
theorem cbs_at : ∀ (l : List Sp) (k : Nat) (o : Sp), l[k]? = some o → ∀ j, j < 3 → (cbs l)[k * 3 + j]? = o.cb[j]?
  | [], k, o, h, j, hj => by simp at h
  | y :: l, 0, o, h, j, hj => by
    simp at h; subst h
    show (y.cb ++ cbs l)[0 * 3 + j]? = _
    rw [Nat.zero_mul, Nat.zero_add, List.getElem?_append_left (show j < y.cb.length from hj)]
  | y :: l, k + 1, o, h, j, hj => by
    show (y.cb ++ cbs l)[(k + 1) * 3 + j]? = _
    have e : y.cb.length = 3 := rfl
    rw [List.getElem?_append_right (by omega), e, show (k + 1) * 3 + j - 3 = k * 3 + j by omega]
    exact cbs_at l k o (by simpa using h) j hj
theorem SlU.keep' {w w' : World} {A : Option Addr} {c : Nat} {R : List Nat} (h : SlU w A c R) (hk : ∀ ad, 0 < R.length → A = some ad → w'.heap[ad.block]? = w.heap[ad.block]? ∧ ad.block < w'.heap.size) : SlU w' A c R := by
  refine ⟨h.len, h.le, h.cap, h.nil, fun hn => ?_⟩
  obtain ⟨ad, e, h1, h2⟩ := Sl.at_ h hn
  refine ⟨ad, e, (hk ad hn e).2, fun j u hu => ?_⟩
  rw [← h2 j u hu]
  refine cell_same ?_
  have hb : (ad.add j).block = ad.block := by unfold Addr.add; split <;> rfl
  rw [hb]
  exact (hk ad hn e).1
/-- what became of a transaction at that time stays -/
def Later (S0 S : List Nat) : Prop := S0.length ≤ S.length ∧ ∀ x, stOf 1 S0 x = 2 ∨ stOf 1 S0 x = 3 → stOf 1 S x = stOf 1 S0 x
theorem Later.refl (S : List Nat) : Later S S := ⟨Nat.le_refl _, fun _ _ => rfl⟩
theorem Later.trans {a b c : List Nat} (h : Later a b) (k : Later b c) : Later a c := ⟨Nat.le_trans h.1 k.1, fun x hx => by rw [k.2 x (by rw [h.2 x hx]; exact hx), h.2 x hx]⟩
theorem later_snoc (S : List Nat) : Later S (S ++ [1]) := ⟨by simp, fun x hx => by
  rw [st_snoc]
  have := st_in (f := 1) (S := S) (x := x) (by omega)
  rw [if_neg (by omega)]⟩
theorem later_end (S : List Nat) (x s : Nat) : Later S (endS 1 S x s) := by
  refine ⟨by rw [endS_len]; exact Nat.le_refl _, fun y hy => ?_⟩
  unfold endS
  split
  · rename_i h
    rw [st_set (by omega)]
    split
    · rename_i e; subst e; omega
    · rfl
  · rfl
/-- the snapshot is of the log as it was once -/
def Sp.of (s : Sp) (S : List Nat) : Prop := ∃ S0, Later S0 S ∧ s.run = runX 1 S0 s.own ∧ s.xmin = xminOf 1 S0 s.own ∧ s.xmax = 1 + S0.length ∧ (∀ t ∈ S0, 1 ≤ t ∧ t ≤ 3)
theorem Sp.of_later {s : Sp} {S S' : List Nat} (h : s.of S) (k : Later S S') : s.of S' := by
  obtain ⟨S0, h1, h2⟩ := h
  exact ⟨S0, h1.trans k, h2⟩
/-- a snapshot's memory is of K -/
structure Sp.mem (s : Sp) (w : World) (K : Nat → Prop) : Prop where
  a : SlU w s.A s.c s.run
  b : SlU w s.B s.d s.run
  ka : ∀ ad, 0 < s.run.length → s.A = some ad → K ad.block
  kb : ∀ ad, 0 < s.run.length → s.B = some ad → K ad.block
theorem Sp.mem_keep {s : Sp} {w w' : World} {K K' : Nat → Prop} (h : s.mem w K) (hk : ∀ g, K g → K' g) (hh : ∀ ad, 0 < s.run.length → s.A = some ad ∨ s.B = some ad → w'.heap[ad.block]? = w.heap[ad.block]? ∧ ad.block < w'.heap.size) : s.mem w' K' :=
  ⟨h.a.keep' (fun ad h0 e => hh ad h0 (.inl e)), h.b.keep' (fun ad h0 e => hh ad h0 (.inr e)), fun ad h0 e => hk _ (h.ka ad h0 e), fun ad h0 e => hk _ (h.kb ad h0 e)⟩
/-- the pair: both logs, and the snapshots -/
structure PS (w0 w : World) (K : Nat → Prop) (PB P Q : Nat) (S : List Nat) (l : List Sp) (A : Option Addr) (c : Nat) (B : Option Addr) (d : Nat) : Prop where
  ap : AP w0 w K P Q 1 S S
  ok : ∀ s ∈ S, 1 ≤ s ∧ s ≤ 3
  kge : ∀ g, K g → w0.heap.size ≤ g
  kPB : K PB
  pb : Blk w PB 35 #[.pointer (some ⟨P, 0, none⟩), .pointer (some ⟨Q, 0, none⟩), .slice A l.length c, .slice B l.length d]
  oa : w.ownsRow w0.heap.size 48 4 (.slice A l.length c) l.length (cas l)
  ob : w.ownsRow w0.heap.size 52 3 (.slice B l.length d) l.length (cbs l)
  kA : ∀ g, (Value.slice A l.length c).ownBlock = some g → K g
  kB : ∀ g, (Value.slice B l.length d).ownBlock = some g → K g
  sp : ∀ s ∈ l, s.mem w K ∧ s.of S
section
variable {w0 w w' : World} {K : Nat → Prop} {PB P Q : Nat} {S S' : List Nat} {l : List Sp} {A B : Option Addr} {c d : Nat}
/-- the logs go on, all else stays -/
theorem PS.goes (h : PS w0 w K PB P Q S l A c B d) (hap : AP w0 w' K P Q 1 S' S') (hk : KeepK K w w') (hok : ∀ s ∈ S', 1 ≤ s ∧ s ≤ 3) (hl : Later S S') : PS w0 w' K PB P Q S' l A c B d :=
  ⟨hap, hok, h.kge, h.kPB, hk.blk h.pb h.kPB, own_keep h.oa fun g hg => hk g (h.kA g hg), own_keep h.ob fun g hg => hk g (h.kB g hg), h.kA, h.kB, fun s hs' => by
    obtain ⟨h1, h2⟩ := h.sp s hs'
    exact ⟨Sp.mem_keep h1 (fun _ h => h) (fun ad h0 e => by
      have hK : K ad.block := by rcases e with e | e; exact h1.ka ad h0 e; exact h1.kb ad h0 e
      obtain ⟨F, G, _, _, _, _, _, h6, _⟩ := hap
      exact ⟨hk _ hK, (h6 _ hK).2.2⟩), Sp.of_later h2 hl⟩⟩
theorem AP.grow {P Q f : Nat} {S T : List Nat} (h : AP w0 w K P Q f S T) (ht : Turn K w w') (hK : ∀ g, K g → w0.heap.size ≤ g) : AP w0 w' (New K w w') P Q f S T := by
  obtain ⟨F, G, h1, h2, h3, h4, h5, h6, h7⟩ := h
  refine ⟨F, G, h1.turn ht (fun g hF hg => (h6 g hg).1 hF), h2.turn ht (fun g hG hg => (h6 g hg).2.1 hG), h3, h4, h5, fun g hg => ?_, h7.trans (ht.below h7.size hK)⟩
  rcases hg with hg | hg
  · exact ⟨(h6 g hg).1, (h6 g hg).2.1, Nat.lt_of_lt_of_le (h6 g hg).2.2 ht.size⟩
  · exact ⟨fun hF => by have := h1.lt g hF; omega, fun hG => by have := h2.lt g hG; omega, hg.2⟩
theorem PS.below (h : PS w0 w K PB P Q S l A c B d) (hb : Below w.heap.size w w') : PS w0 w' K PB P Q S l A c B d :=
  h.goes (h.ap.below hb).1 (h.ap.below hb).2 h.ok (Later.refl _)
end
end Go.Proofs.Ytnpmjljpaaaljaa.Clg
