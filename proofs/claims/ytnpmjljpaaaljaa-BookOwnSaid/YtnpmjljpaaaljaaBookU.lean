/- book.Book: Table, Indexes. -/
import Derived.Test.YtnpmjljpaaaljaaBookT
import Derived.Test.YtnpmjljpaaaljaaBookQ
namespace Go.Proofs.Ytnpmjljpaaaljaa.Bok
open Go.ChangeMaps Go.MapKept Go.RowKit Go.Proofs.Ytnpmjljpaaaljaa.Nums Go.Proofs.Ytnpmjljpaaaljaa.Mem Go.Proofs.Ytnpmjljpaaaljaa.Clg
set_option linter.unusedVariables false
set_option linter.unusedSimpArgs false
set_option maxRecDepth 100000
set_option maxHeartbeats 1000000
def idO : Option Tb → Nat
  | none => 0
  | some t => t.e.id
/-- the table that is told -/
def TbV (i : Nat) (q : Bool) (e : Ending) : Prop := ∃ (nm : ByteArray) (A : Option Addr) (m c a b : Nat), e = .returned (.tuple #[.agg #[.int .u64 (i : Int), .string nm, .slice A m c, .int .u64 (a : Int), .int .u64 (b : Int)], .bool q])
def TbP (w : World) (r : Option Tb) (e : Ending) (w' : World) : Prop := TbV (idO r) r.isSome e ∧ Below w.heap.size w w'
theorem table_ret {w : World} {T : Nat} {v0 v1 v2 v3 v4 q : Value} {tmps : Array Value} (h : Blk w T 91 #[v0, v1, v2, v3, v4]) (h4 : tmps.getD 8 undef = .pointer (some ⟨T, 0, none⟩)) (h5 : tmps.getD 9 undef = q) :
    (results Try.f40 tmps).run Try.prog w = .ok (.tuple #[.agg #[v0, v1, v2, v3, v4], q]) w := by
  have x0 := h.cell 0
  have x1 := h.cell 1
  have x2 := h.cell 2
  have x3 := h.cell 3
  have x4 := h.cell 4
  have g4 : tmps[8]?.getD undef = .pointer (some ⟨T, 0, none⟩) := by simpa using h4
  have g5 : tmps[9]?.getD undef = q := by simpa using h5
  simp at x0 x1 x2 x3 x4
  simp [results, Try.results40, go_sem, g4, g5, x0, x1, x2, x3, x4]
section
variable {w : World} {F FL : Nat → Prop} {B P f n last : Nat} {S : List Nat} {s : Sn} {ts : List Tb} {xs : List Ix} {name : ByteArray}
theorem table_b (h : BF w F B ts xs last) (lk : Lk w FL P f S s n) (hl : ts.length ≤ 1000) (name : ByteArray) :
    Calls Try.prog 40 #[.pointer (some ⟨B, 0, none⟩), .pointer (some ⟨P, 0, none⟩), .agg #[.int .u64 (s.own : Int), .int .u64 (s.xmin : Int), .int .u64 (s.xmax : Int), .slice s.A n s.c], .string name] w (TbP w (fnd f S s name ts)) := by
  obtain ⟨T, hT⟩ : ∃ T, w.heap.size = T := ⟨_, rfl⟩
  obtain ⟨W1, hW1⟩ : ∃ W1, w.alloc (.cells #[.int .u64 (s.own : Int), .int .u64 (s.xmin : Int), .int .u64 (s.xmax : Int), .slice s.A n s.c] 48) = W1 := ⟨_, rfl⟩
  obtain ⟨W2, hW2⟩ : ∃ W2, W1.alloc (.cells #[.int .u64 0, .string ⟨#[]⟩, .slice none 0 0, .int .u64 0, .int .u64 0] 91) = W2 := ⟨_, rfl⟩
  have hs1 : W1.heap.size = T + 1 := by rw [← hW1, size_alloc, hT]
  have hb1 : Below w.heap.size w W1 := by rw [← hW1]; exact bel_alloc _ _
  have hb2 : Below w.heap.size w W2 := bel_trans hb1 (by rw [← hW2]; exact bel_alloc _ _)
  have hbT : Blk W2 T 48 #[.int .u64 (s.own : Int), .int .u64 (s.xmin : Int), .int .u64 (s.xmax : Int), .slice s.A n s.c] := by rw [← hW2]; exact Blk.alloc (by rw [← hW1, ← hT]; exact Blk.new w _ _) _
  have hbR : Blk W2 (T + 1) 91 #[.int .u64 0, .string ⟨#[]⟩, .slice none 0 0, .int .u64 0, .int .u64 0] := by rw [← hW2, ← hs1]; exact Blk.new W1 _ _
  have HB2 := Lib.hid hb2
  have HBR := Lib.hid hbR
  have HBF := Lib.hid (h.below hb2)
  have CF := find_b (h.below hb2) (lk.below hb2) hl name
  have HM : Hid (∀ t, fnd f S s name ts = some t → t ∈ ts) := Lib.hid (fun t ht => fnd_mem ht)
  obtain ⟨x0, x1, x2, x3⟩ := cells4 hbT
  have HWS := Lib.hid (And.intro hW1 (And.intro hW2 hT))
  obtain ⟨r, hr⟩ : ∃ r, fnd f S s name ts = r := ⟨_, rfl⟩
  rw [hr] at CF HM ⊢
  have CF := Lib.hid CF
  clear h lk hl hb1 hb2 hbT hbR hW1 hW2 hT hs1 hr
  cases r with
  | none =>
    go_enter Try.func40, Try.ntmps40
    go_upto_region 1 with fail
    rw [HWS.out.1, HWS.out.2.1, HWS.out.2.2]
    go_wp2_with fail
    refine CF.out.mono ?_
    rintro e w3 ⟨rfl, hb3⟩
    unfold fndV
    have HR3 := Lib.hid (HBR.out.below hb3 HBR.out.lt)
    have HB3 := Lib.hid (HB2.out.trans (hb3.mono HB2.out.size))
    clear hb3 x0 x1 x2 x3
    have p0 := HR3.out.frozen 0
    have p1 := HR3.out.frozen 1
    have p2 := HR3.out.frozen 2
    have p3 := HR3.out.frozen 3
    have p4 := HR3.out.frozen 4
    have q0 := HR3.out.cell 0
    have q1 := HR3.out.cell 1
    have q2 := HR3.out.cell 2
    have q3 := HR3.out.cell 3
    have q4 := HR3.out.cell 4
    go_wp2_with fail
    have hs := Blk.set_ (Blk.set_ (Blk.set_ (Blk.set_ (Blk.set_ HR3.out 0 (.int .u64 0)) 1 (.string ⟨#[]⟩)) 2 (.slice none 0 0)) 3 (.int .u64 0)) 4 (.int .u64 0)
    have hT : w.heap.size ≤ T + 1 := by rw [HWS.out.2.2]; omega
    have hb4 := ((((HB3.out.setCell (p := ⟨T + 1, 0, none⟩) hT (.int .u64 0)).setCell (p := ⟨T + 1, 1, none⟩) hT (.string ⟨#[]⟩)).setCell (p := ⟨T + 1, 2, none⟩) hT (.slice none 0 0)).setCell (p := ⟨T + 1, 3, none⟩) hT (.int .u64 0)).setCell (p := ⟨T + 1, 4, none⟩) hT (.int .u64 0)
    clear p0 p1 p2 p3 p4 q0 q1 q2 q3 q4
    refine bodyPost_ret (table_ret hs rfl rfl) rfl ?_
    exact ⟨⟨⟨#[]⟩, none, 0, 0, 0, 0, rfl⟩, hb4⟩
  | some t =>
    have HTM := Lib.hid (HM.out t rfl)
    obtain ⟨⟨g, id, nm, a, b⟩, d, c⟩ := t
    go_enter Try.func40, Try.ntmps40
    go_upto_region 1 with fail
    rw [HWS.out.1, HWS.out.2.1, HWS.out.2.2]
    go_wp2_with fail
    refine CF.out.mono ?_
    rintro e w3 ⟨rfl, hb3⟩
    unfold fndV
    have HR3 := Lib.hid (HBR.out.below hb3 HBR.out.lt)
    have HB3 := Lib.hid (HB2.out.trans (hb3.mono HB2.out.size))
    obtain ⟨i, hi⟩ := List.getElem?_of_mem HTM.out
    have CT := Lib.hid (by
      obtain ⟨A1, c1, A2, c2, hA⟩ := HBF.out.below hb3
      obtain ⟨k1, k2, k3⟩ := hA.tb i _ hi
      exact ttell_any k1 k3)
    clear hb3 hi x0 x1 x2 x3
    go_wp2_with fail
    refine CT.out.mono ?_
    rintro e w4 ⟨d2, c2, rfl, hb4⟩
    have HR4 := Lib.hid (HR3.out.below hb4 HR3.out.lt)
    have HB4 := Lib.hid (HB3.out.trans (hb4.mono HB3.out.size))
    clear hb4
    have p0 := HR4.out.frozen 0
    have p1 := HR4.out.frozen 1
    have p2 := HR4.out.frozen 2
    have p3 := HR4.out.frozen 3
    have p4 := HR4.out.frozen 4
    have q0 := HR4.out.cell 0
    have q1 := HR4.out.cell 1
    have q2 := HR4.out.cell 2
    have q3 := HR4.out.cell 3
    have q4 := HR4.out.cell 4
    go_wp2_with fail
    have hs := Blk.set_ (Blk.set_ (Blk.set_ (Blk.set_ (Blk.set_ HR4.out 0 (.int .u64 (id : Int))) 1 (.string nm)) 2 (.slice (some ⟨d2, 0, none⟩) 1 c2)) 3 (.int .u64 (a : Int))) 4 (.int .u64 (b : Int))
    have hT : w.heap.size ≤ T + 1 := by rw [HWS.out.2.2]; omega
    have hb5 := ((((HB4.out.setCell (p := ⟨T + 1, 0, none⟩) hT (.int .u64 (id : Int))).setCell (p := ⟨T + 1, 1, none⟩) hT (.string nm)).setCell (p := ⟨T + 1, 2, none⟩) hT (.slice (some ⟨d2, 0, none⟩) 1 c2)).setCell (p := ⟨T + 1, 3, none⟩) hT (.int .u64 (a : Int))).setCell (p := ⟨T + 1, 4, none⟩) hT (.int .u64 (b : Int))
    clear p0 p1 p2 p3 p4 q0 q1 q2 q3 q4
    refine bodyPost_ret (table_ret hs rfl rfl) rfl ?_
    exact ⟨⟨nm, some ⟨d2, 0, none⟩, 1, c2, a, b, rfl⟩, hb5⟩
end
theorem infoIx : (Try.prog.info? 87).map (fun i => (i.zero, i.size, i.bytes)) = some (some (.agg #[.int .u64 0, .string ⟨#[]⟩, .int .u64 0, .int .i64 0, .int .u64 0, .int .u64 0]), 6, 56) := by kernel_rfl
theorem wpl_app_i {w : World} {ops : Array Oper} {rest : List Oper} {o : Oper} {a : Act} {Q : Exit → Act → World → Prop} (hgd : o.guard = none) (s x : Operand)
    (ho : o.op = .call { callee := .builtin .append, args := #[s, x], argTypes := #[94, 94] })
    (base : Nat) (v : Value) (n : Nat) (xs : List Value) (hs : a.eval s = v) (hown : w.ownsRow base 87 6 v n xs)
    (B : Nat) (y : Value) (m : Nat) (news : List Value) (hy : a.eval x = y) (hx : Lies w B 6 y m news) (h1 : ∀ u ∈ news, u.oneCell' = true)
    (hbytes : n + m ≤ 100000000000) (hbase : base ≤ w.heap.size)
    (h : ∀ v' w', w'.ownsRow base 87 6 v' (n + m) (xs ++ news) → Kin w w' v v' → wpList Try.prog ops Q rest (a.put o.dst v') w') : wpList Try.prog ops Q (o :: rest) a w := by
  obtain ⟨i, hi, hz0, hz1, hz2⟩ := info_parts infoIx
  exact wpList_plain hgd fun _ hK => wp_append_mem w s x _ ho base 87 i _ 6 56 Try.underlying94 hi hz0 hz1 hz2 rfl (by omega) v n xs hs hown B y m news hy hx h1 (by unfold maxLen; omega) (by omega) hbase fun v' w' h2 h3 => hK _ _ (h v' w' h2 h3)
def Ix.row (x : Ix) : List Value := [.int .u64 (x.e.id : Int), .string x.e.nm, .int .u64 (x.t : Int), .int .i64 (x.k : Int), .int .u64 (x.e.a : Int), .int .u64 (x.e.b : Int)]
theorem row_one (x : Ix) : ∀ u ∈ x.row, u.oneCell' = true := by
  intro u hu
  simp [Ix.row] at hu
  rcases hu with rfl | rfl | rfl | rfl | rfl | rfl <;> rfl
def rows (l : List Ix) : List Value := l.flatMap Ix.row
theorem rows_app (a b : List Ix) : rows (a ++ b) = rows a ++ rows b := by simp [rows]
/-- indexes of one's own, as a result -/
def InP (w : World) (l : List Ix) (E : Ending) (w' : World) : Prop := ∃ A c, E = .returned (.slice A l.length c) ∧ w'.ownsRow w.heap.size 87 6 (.slice A l.length c) l.length (rows l) ∧ Below w.heap.size w w'
section
variable {w : World} {F FL : Nat → Prop} {B P f n last : Nat} {S : List Nat} {s : Sn} {ts : List Tb} {xs : List Ix} {name : ByteArray}
theorem indexes_b (h : BF w F B ts xs last) (lk : Lk w FL P f S s n) (hl2 : xs.length ≤ 900) (hxt : ∀ x ∈ xs, x.t ≤ 1000000) {id : Nat} (hid : id ≤ 1000000) :
    Calls Try.prog 41 #[.pointer (some ⟨B, 0, none⟩), .pointer (some ⟨P, 0, none⟩), .agg #[.int .u64 (s.own : Int), .int .u64 (s.xmin : Int), .int .u64 (s.xmax : Int), .slice s.A n s.c], .int .u64 (id : Int)] w (InP w ((ofX xs id).filter (vsX f S s))) := by
  obtain ⟨T, hT⟩ : ∃ T, w.heap.size = T := ⟨_, rfl⟩
  obtain ⟨W1, hW1⟩ : ∃ W1, w.alloc (.cells #[.int .u64 (s.own : Int), .int .u64 (s.xmin : Int), .int .u64 (s.xmax : Int), .slice s.A n s.c] 48) = W1 := ⟨_, rfl⟩
  have hb1 : Below w.heap.size w W1 := by rw [← hW1]; exact bel_alloc _ _
  have hbT : Blk W1 T 48 #[.int .u64 (s.own : Int), .int .u64 (s.xmin : Int), .int .u64 (s.xmax : Int), .slice s.A n s.c] := by rw [← hW1, ← hT]; exact Blk.new w _ _
  have HB1 := Lib.hid hb1
  have HBT := Lib.hid hbT
  have HBF0 := Lib.hid h
  have HLK0 := Lib.hid lk
  have HXT := Lib.hid (And.intro hl2 hxt)
  have CO := of_b (h.below hb1) (by omega) id hxt hid
  unfold PtrP at CO
  obtain ⟨N, hN⟩ : ∃ N, (gsX (ofX xs id)).length = N := ⟨_, rfl⟩
  rw [hN] at CO
  have CO := Lib.hid CO
  have HN : Hid ((ofX xs id).length = N ∧ N ≤ 900) := Lib.hid ⟨by rw [← hN, gsX_len], by rw [← hN, gsX_len]; exact Nat.le_trans (List.length_filter_le _ _) hl2⟩
  have hNb := HN.out.2
  have HWS := Lib.hid (And.intro hW1 hT)
  clear h lk hl2 hxt hb1 hbT hW1 hT hN
  go_enter Try.func41, Try.ntmps41
  go_upto_region 1 with fail
  rw [HWS.out.1, HWS.out.2]
  go_wp2_with fail
  refine CO.out.mono ?_
  rintro e w4 ⟨AX, cX, rfl, hox, hb4⟩
  have HOX := Lib.hid hox
  have HT4 := Lib.hid (HBT.out.below hb4 HBT.out.lt)
  have HBW4 := Lib.hid (HB1.out.trans (hb4.mono HB1.out.size))
  have hle := (own_le hox).1
  have hcp := (own_le hox).2
  unfold maxLen at hcp
  clear hox hb4
  go_wp2_with fail
  go_loopw [9, 16] (fun v iv wr => ∃ (k m : Nat) (A : Option Addr) (c : Nat), k ≤ N ∧ m ≤ k ∧ iv = .int .i64 k ∧ v = .slice A m c ∧ (((ofX xs id).take k).filter (vsX f S s)).length = m ∧ wr.ownsRow w.heap.size 87 6 (.slice A m c) m (rows (((ofX xs id).take k).filter (vsX f S s))) ∧ Below w.heap.size w wr ∧ Blk wr T 48 #[.int .u64 (s.own : Int), .int .u64 (s.xmin : Int), .int .u64 (s.xmax : Int), .slice s.A n s.c] ∧ wr.ownsRow W1.heap.size 146 1 (.slice AX N cX) N (ptrs (gsX (ofX xs id)))) (fun _ iv _ => N - (intOf iv).toNat)
  case atStart => exact ⟨0, 0, none, 0, by omega, by omega, rfl, rfl, rfl, World.ownsRow_nil _ _ _ _, HBW4.out, HT4.out, HOX.out⟩
  case round =>
    obtain ⟨k, m, A, c, hk, hmk, rfl, rfl, hm, ho, hbw, hbt, hox⟩ := hrel
    have HO := Lib.hid ho
    have HBW := Lib.hid hbw
    have HBTW := Lib.hid hbt
    have HOXW := Lib.hid hox
    have HM := Lib.hid hm
    clear ho hm hbt hox
    by_cases hlt : k < N
    · have hlt' : (k : Int) < N := by omega
      obtain ⟨x, hx⟩ : ∃ x, (ofX xs id)[k]? = some x := ⟨_, List.getElem?_eq_getElem (by rw [HN.out.1]; exact hlt)⟩
      have hg : (gsX (ofX xs id))[k]? = some x.e.g := by unfold gsX; rw [List.getElem?_map, hx]; rfl
      obtain ⟨d, rfl, y0⟩ := own_at HOXW.out hg hlt
      have hxm : x ∈ xs := (List.mem_filter.1 (List.mem_of_getElem? hx)).1
      obtain ⟨j, hj⟩ := List.getElem?_of_mem hxm
      have HTD := Lib.hid (HBTW.out.below (bel_drew wr) HBTW.out.lt)
      have X0 := Lib.hid (cells4 HBTW.out)
      obtain ⟨t0, t1, t2, t3⟩ := X0.out
      have CV : Hid (Calls Try.prog 65 #[.pointer (some ⟨x.e.g, 0, none⟩), .pointer (some ⟨P, 0, none⟩), .agg #[.int .u64 (s.own : Int), .int .u64 (s.xmin : Int), .int .u64 (s.xmax : Int), .slice s.A n s.c]] wr.drew (BoolP wr.drew (visS f S s x.e.a x.e.b))) := Lib.hid (by
        obtain ⟨A1, c1, A2, c2, hA⟩ := HBF0.out.below hbw
        exact visible_e ((HLK0.out.below hbw).below (bel_drew wr)) ((hA.eaX hj).below (bel_drew wr)))
      have HIX : Hid (Blk wr x.e.g 149 x.cells) := Lib.hid (by
        obtain ⟨A1, c1, A2, c2, hA⟩ := HBF0.out.below hbw
        exact (hA.ix j x hj).1)
      have hbs : w.heap.size ≤ wr.heap.size := hbw.size
      have HTK : Hid ((ofX xs id).take (k + 1) = (ofX xs id).take k ++ [x]) := Lib.hid (by rw [List.take_add_one, hx]; rfl)
      obtain ⟨⟨xg, xid, xnm, xa, xb⟩, tt, kk⟩ := x
      obtain ⟨p, hp⟩ : ∃ p, visS f S s xa xb = p := ⟨_, rfl⟩
      have HP : Hid (vsX f S s ⟨⟨xg, xid, xnm, xa, xb⟩, tt, kk⟩ = p) := Lib.hid hp
      replace CV : Hid (Calls Try.prog 65 #[.pointer (some ⟨xg, 0, none⟩), .pointer (some ⟨P, 0, none⟩), .agg #[.int .u64 (s.own : Int), .int .u64 (s.xmin : Int), .int .u64 (s.xmax : Int), .slice s.A n s.c]] wr.drew (BoolP wr.drew p)) := Lib.hid (by rw [← hp]; exact CV.out)
      clear hx hg hxm hj hp hbw
      go_upto_region 5 with fail
      go_region_held3 (fun w' => w'.cell? ⟨T, 0, none⟩ = some (.int .u64 (s.own : Int)) ∧ w'.cell? ⟨T, 1, none⟩ = some (.int .u64 (s.xmin : Int)) ∧ w'.cell? ⟨T, 2, none⟩ = some (.int .u64 (s.xmax : Int)) ∧ w'.cell? ⟨T, 3, none⟩ = some (.slice s.A n s.c)) (first | with_reducible exact X3.out | with_reducible exact X0.out | go_keep)
        (first
          | (go_at_call 65; refine CV.out.mono ?_; rintro e w5 ⟨rfl, hb5⟩; have X3 := Lib.hid (cells4 (HTD.out.below hb5 HTD.out.lt)); have HB5 := Lib.hid (bel_trans (bel_drew wr) hb5); clear hb5))
      have HO5 := Lib.hid (own_keep HO.out fun q hq => HB5.out.block q (HO.out.lt q hq).2)
      have HX5 := Lib.hid (own_keep HOXW.out fun q hq => HB5.out.block q (HOXW.out.lt q hq).2)
      have HT5 := Lib.hid (HBTW.out.below HB5.out HBTW.out.lt)
      have HBW5 := Lib.hid (HBW.out.trans (HB5.out.mono HBW.out.size))
      have HI5 := Lib.hid (HIX.out.below HB5.out HIX.out.lt)
      have hbs5 : w.heap.size ≤ w5.heap.size := Nat.le_trans hbs HB5.out.size
      cases p
      · have HF : Hid (((ofX xs id).take (k + 1)).filter (vsX f S s) = ((ofX xs id).take k).filter (vsX f S s)) := Lib.hid (by rw [HTK.out, List.filter_append]; simp [HP.out])
        go_wp2_with fail
        go_roundw
        case rel => exact ⟨k + 1, m, A, c, by omega, by omega, by go_num, rfl, by rw [HF.out]; exact HM.out, by rw [HF.out]; exact HO5.out, HBW5.out, HT5.out, HX5.out⟩
        case measure => simp [intOf]; omega
      · have HF : Hid (((ofX xs id).take (k + 1)).filter (vsX f S s) = ((ofX xs id).take k).filter (vsX f S s) ++ [⟨⟨xg, xid, xnm, xa, xb⟩, tt, kk⟩]) := Lib.hid (by rw [HTK.out, List.filter_append]; simp [HP.out])
        have CI := Lib.hid (itell_any HI5.out)
        unfold Ix.val at CI
        go_upto_region 7 with (first | (go_at_call 68; refine CI.out.mono ?_; rintro e w6 ⟨rfl, hb6⟩; have HB6 := Lib.hid hb6; have HO6 := Lib.hid (own_keep HO5.out fun q hq => hb6.block q (HO5.out.lt q hq).2); have hbs6 : w.heap.size ≤ w6.heap.size := Nat.le_trans hbs5 hb6.size; clear hb6) | (at_builtin; go_loud (refine wpl_app_i rfl (.tmp 26) (.tmp 29) rfl w.heap.size _ m _ rfl (World.ownsRow.alloc HO6.out _) _ _ 1 (Ix.row ⟨⟨xg, xid, xnm, xa, xb⟩, tt, kk⟩) rfl (lies_at _ #[.int .u64 (xid : Int), .string xnm, .int .u64 (tt : Int), .int .i64 (kk : Int), .int .u64 (xa : Int), .int .u64 (xb : Int)] _ 6 1 w6.heap.size rfl rfl) (row_one _) (by omega) (by rw [size_alloc]; omega) ?_; intro v1 w8 hown1 hg1; obtain ⟨A8, c8, hv1, _⟩ := Sl.of_own hown1; subst hv1)))
        have htf := TF.kin (World.ownsRow.alloc HO6.out (.cells #[.int .u64 (xid : Int), .string xnm, .int .u64 (tt : Int), .int .i64 (kk : Int), .int .u64 (xa : Int), .int .u64 (xb : Int)] 87)) hg1 (l := [87]) (by simp)
        have hT8 := htf _ _ _ (Blk.alloc (HT5.out.below HB6.out HT5.out.lt) _) (by decide)
        have hX8 : w8.ownsRow W1.heap.size 146 1 (.slice (some ⟨d, 0, none⟩) N cX) N (ptrs (gsX (ofX xs id))) := own_keep HX5.out fun q hq => by
          rcases HX5.out.2 with ⟨q1, _⟩ | ⟨g', cap, cur, q1, _, q3, _⟩
          · cases q1
          · rw [q1] at hq
            have : g' = q := by simpa [Value.ownBlock] using hq
            subst this
            exact (htf _ _ _ (Blk.alloc (Blk.below q3 HB6.out (Blk.lt q3)) _) (by decide)).trans q3.symm
        have hB8 : Below w.heap.size w w8 := (HBW5.out.trans (HB6.out.mono HBW5.out.size)).trans (((bel_alloc w6 _).mono hbs6).trans (hg1.below (by rw [size_alloc]; omega) fun q hq => (HO6.out.lt q hq).1))
        have H8 := Lib.hid (And.intro hT8 (And.intro hX8 hB8))
        have HOW8 := Lib.hid hown1
        clear htf hT8 hX8 hB8 hown1 hg1
        go_wp2_with fail
        go_roundw
        case rel => exact ⟨k + 1, m + 1, A8, c8, by omega, by omega, by go_num, by first | rfl | (congr 1), by rw [HF.out, List.length_append, HM.out]; rfl, by rw [HF.out, rows_app]; have h := HOW8.out; simpa [rows] using h, H8.out.2.2, H8.out.1, H8.out.2.1⟩
        case measure => simp [intOf]; omega
    · obtain rfl : k = N := by omega
      have HTK : Hid ((ofX xs id).take k = ofX xs id) := Lib.hid (List.take_of_length_le (by rw [HN.out.1]; exact Nat.le_refl _))
      go_wp2_with fail
      go_ret
      have h1 := HO.out
      have h2 := HM.out
      rw [HTK.out] at h1 h2
      unfold InP
      rw [h2]
      exact ⟨A, c, rfl, h1, HBW.out⟩
end
end Go.Proofs.Ytnpmjljpaaaljaa.Bok
