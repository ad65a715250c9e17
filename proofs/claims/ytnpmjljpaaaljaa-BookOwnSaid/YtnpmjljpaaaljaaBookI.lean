/- book.Book: taken. -/
import Derived.Test.YtnpmjljpaaaljaaBookH
namespace Go.Proofs.Ytnpmjljpaaaljaa.Bok
open Go.ChangeMaps Go.MapKept Go.RowKit Go.Proofs.Ytnpmjljpaaaljaa.Nums Go.Proofs.Ytnpmjljpaaaljaa.Mem Go.Proofs.Ytnpmjljpaaaljaa.Clg
set_option linter.unusedVariables false
set_option linter.unusedSimpArgs false
set_option maxRecDepth 100000
set_option maxHeartbeats 1000000
def nmB (f : Nat) (S : List Nat) (s : Sn) (name : ByteArray) (e : En) : Bool := namedB f S s e.nm name e.a e.b
def cfB (f : Nat) (S : List Nat) (s : Sn) (name : ByteArray) (e : En) : Bool := decide (e.nm = name) && (aliveB f S e.a e.b && !dropB e.b s.own)
/-- why a name is taken -/
def takE (f : Nat) (S : List Nat) (s : Sn) (name : ByteArray) (es : List En) : Int := if es.any (nmB f S s name) = true then 7 else if es.any (cfB f S s name) = true then 11 else 0
def cfE (f : Nat) (S : List Nat) (s : Sn) (name : ByteArray) (es : List En) : Int := if es.any (cfB f S s name) = true then 11 else 0
section
variable {f : Nat} {S : List Nat} {s : Sn} {name : ByteArray} {es : List En} {e : En} {k : Nat}
theorem take_next (h : es[k]? = some e) : es.take (k + 1) = es.take k ++ [e] := by rw [List.take_add_one, h]; rfl
theorem cf_yes (h : es[k]? = some e) (hc : cfB f S s name e = true) : cfE f S s name (es.take (k + 1)) = 11 := by
  unfold cfE
  rw [take_next h, List.any_append, if_pos (by simp [hc])]
theorem cf_no (h : es[k]? = some e) (hc : cfB f S s name e = false) : cfE f S s name (es.take (k + 1)) = cfE f S s name (es.take k) := by
  unfold cfE
  rw [take_next h, List.any_append]
  simp [hc]
theorem nm_no (h : es[k]? = some e) (hn : ∀ x ∈ es.take k, nmB f S s name x = false) (hc : nmB f S s name e = false) : ∀ x ∈ es.take (k + 1), nmB f S s name x = false := by
  rw [take_next h]
  intro x hx
  rw [List.mem_append, List.mem_singleton] at hx
  rcases hx with hx | rfl
  · exact hn x hx
  · exact hc
theorem tak_yes (h : es[k]? = some e) (hc : nmB f S s name e = true) : takE f S s name es = 7 := by
  unfold takE
  rw [if_pos (List.any_eq_true.2 ⟨e, List.mem_of_getElem? h, hc⟩)]
theorem tak_end (hn : ∀ x ∈ es, nmB f S s name x = false) : takE f S s name es = cfE f S s name es := by
  unfold takE cfE
  rw [if_neg]
  intro h
  obtain ⟨x, hx, hh⟩ := List.any_eq_true.1 h
  rw [hn x hx] at hh
  cases hh
end
theorem taken_b {w : World} {F FL : Nat → Prop} {B P f n last : Nat} {S : List Nat} {s : Sn} {ts : List Tb} {xs : List Ix} (h : BF w F B ts xs last) (lk : Lk w FL P f S s n) (hl : ts.length ≤ 1000) (hl2 : xs.length ≤ 1000) (name : ByteArray) :
    Calls Try.prog 60 #[.pointer (some ⟨B, 0, none⟩), .pointer (some ⟨P, 0, none⟩), .agg #[.int .u64 (s.own : Int), .int .u64 (s.xmin : Int), .int .u64 (s.xmax : Int), .slice s.A n s.c], .string name] w fun e w' => e = .returned (.int .i64 (takE f S s name (ens ts xs))) ∧ Below w.heap.size w w' := by
  obtain ⟨T, hT⟩ : ∃ T, w.heap.size = T := ⟨_, rfl⟩
  obtain ⟨W1, hW1⟩ : ∃ W1, w.alloc (.cells #[.int .u64 (s.own : Int), .int .u64 (s.xmin : Int), .int .u64 (s.xmax : Int), .slice s.A n s.c] 48) = W1 := ⟨_, rfl⟩
  have hb1 : Below w.heap.size w W1 := by rw [← hW1]; exact bel_alloc _ _
  have hbT : Blk W1 T 48 #[.int .u64 (s.own : Int), .int .u64 (s.xmin : Int), .int .u64 (s.xmax : Int), .slice s.A n s.c] := by rw [← hW1, ← hT]; exact Blk.new w _ _
  obtain ⟨es, hes⟩ : ∃ es, ens ts xs = es := ⟨_, rfl⟩
  obtain ⟨N, hN⟩ : ∃ N, (gsT ts ++ gsX xs).length = N := ⟨_, rfl⟩
  have HB1 := Lib.hid hb1
  have HBT := Lib.hid hbT
  have HLK := Lib.hid (lk.below hb1)
  have HES : Hid (es.length = N ∧ gsT ts ++ gsX xs = gsE es ∧ N ≤ 2000) := Lib.hid ⟨by rw [← hN, ← hes]; simp [ens, gsT, gsX], by rw [← hes, gs_ens], by rw [← hN, List.length_append, gsT_len, gsX_len]; omega⟩
  have CE := entries_b (h.below hb1) hl hl2
  unfold PtrP at CE
  rw [hN, HES.out.2.1] at CE
  have CE := Lib.hid CE
  have HEA := Lib.hid (fun (W : World) (hW : Below W1.heap.size W1 W) (k : Nat) (e : En) (he : es[k]? = some e) => (((h.below hb1).below hW).ea (by rw [hes]; exact he) : EA W e.g e.id e.nm e.a e.b))
  have HWS := Lib.hid (And.intro hW1 hT)
  rw [hes]
  have hN2 := HES.out.2.2
  clear h lk hb1 hbT hW1 hT hl hl2 hes hN
  go_enter Try.func60, Try.ntmps60
  go_upto_region 1 with fail
  rw [HWS.out.1, HWS.out.2]
  go_wp2_with fail
  refine CE.out.mono ?_
  rintro e w1 ⟨A, c, rfl, ho, hbe⟩
  have HO := Lib.hid ho
  have HBE := Lib.hid hbe
  have hle := (own_le ho).1
  have hcp := (own_le ho).2
  unfold maxLen at hcp
  clear ho hbe
  go_wp2_with fail
  go_loopw [9, 15] (fun v i wr => ∃ k : Nat, k ≤ N ∧ i = .int .i64 k ∧ v = .int .i64 (cfE f S s name (es.take k)) ∧ (∀ x ∈ es.take k, nmB f S s name x = false) ∧ Below w1.heap.size w1 wr) (fun _ i _ => N - (intOf i).toNat)
  case atStart => exact ⟨0, by omega, rfl, rfl, fun x hx => by simp at hx, Below.refl _ _⟩
  case round =>
    obtain ⟨k, hk, rfl, rfl, hno, hb⟩ := hrel
    have HNO := Lib.hid hno
    have HB := Lib.hid hb
    clear hno hb
    by_cases hlt : k < N
    · have hlt' : (k : Int) < N := by omega
      obtain ⟨x, hx⟩ : ∃ x, es[k]? = some x := ⟨_, List.getElem?_eq_getElem (by rw [HES.out.1]; exact hlt)⟩
      have hg : (gsE es)[k]? = some x.g := by unfold gsE; rw [List.getElem?_map, hx]; rfl
      obtain ⟨d, rfl, hc⟩ := own_at HO.out hg hlt
      have y0 : wr.cell? ⟨d, k, none⟩ = some (.pointer (some ⟨x.g, 0, none⟩)) := (HB.out.cell (p := ⟨d, k, none⟩) (HO.out.lt d rfl).2).trans hc
      have hbw : Below W1.heap.size W1 wr := HBE.out.trans (HB.out.mono HBE.out.size)
      obtain ⟨t0, t1, t2, t3⟩ := cells4 (HBT.out.below hbw HBT.out.lt)
      have HLW := Lib.hid (HLK.out.below hbw)
      have HEW := Lib.hid (HEA.out wr hbw k x hx)
      have CN := Lib.hid (named_e HLW.out HEW.out name)
      obtain ⟨g, id, nm, a, b⟩ := x
      obtain ⟨p, hp⟩ : ∃ p, namedB f S s nm name a b = p := ⟨_, rfl⟩
      have HP : Hid (nmB f S s name ⟨g, id, nm, a, b⟩ = p) := Lib.hid hp
      have HX := Lib.hid hx
      have HBW := Lib.hid hbw
      replace CN : Hid (Calls Try.prog 70 #[.pointer (some ⟨g, 0, none⟩), .pointer (some ⟨P, 0, none⟩), .agg #[.int .u64 (s.own : Int), .int .u64 (s.xmin : Int), .int .u64 (s.xmax : Int), .slice s.A n s.c], .string name] wr (BoolP wr p)) := Lib.hid (by rw [← hp]; exact CN.out)
      clear hx hg hc hbw hp
      cases p
      · go_wp2_with fail
        refine CN.out.mono ?_
        rintro e w2 ⟨rfl, hb2⟩
        have HE2 := Lib.hid (HEW.out.below hb2)
        have HL2 := Lib.hid (HLW.out.below hb2)
        have HB2 := Lib.hid (HB.out.trans (hb2.mono HB.out.size))
        obtain ⟨t0, t1, t2, t3⟩ := cells4 (HBT.out.below (HBW.out.trans (hb2.mono HBW.out.size)) HBT.out.lt)
        have HT2 := Lib.hid (HBT.out.below (HBW.out.trans (hb2.mono HBW.out.size)) HBT.out.lt)
        have z1 := HE2.out.c1
        clear hb2 y0
        by_cases hq : nm = name
        · subst hq
          have CA := Lib.hid (alive_e HL2.out.lf HL2.out.ok HE2.out)
          obtain ⟨r, hr⟩ : ∃ r, aliveB f S a b = r := ⟨_, rfl⟩
          have HC : Hid (cfB f S s nm ⟨g, id, nm, a, b⟩ = (r && !dropB b s.own)) := Lib.hid (by unfold cfB; rw [hr]; simp)
          rw [hr] at CA
          clear hr
          cases r
          · have HCF := Lib.hid (cf_no HX.out (show cfB f S s nm ⟨g, id, nm, a, b⟩ = false by rw [HC.out]; rfl))
            go_wp2_with fail
            refine CA.out.mono ?_
            rintro e w3 ⟨rfl, hb3⟩
            have HB3 := Lib.hid (HB2.out.trans (hb3.mono HB2.out.size))
            clear hb3
            go_wp2_with fail
            go_roundw
            case rel => exact ⟨k + 1, by omega, by go_num, by rw [HCF.out], nm_no HX.out HNO.out HP.out, HB3.out⟩
            case measure => simp [intOf]; omega
          · obtain ⟨q, hqd⟩ : ∃ q, dropB b s.own = q := ⟨_, rfl⟩
            rw [hqd] at HC
            have CD := fun (W : World) (hE : EA W g id nm a b) => dropped_e hE s.own
            rw [hqd] at CD
            have CD := Lib.hid CD
            clear hqd
            go_wp2_with fail
            refine CA.out.mono ?_
            rintro e w3 ⟨rfl, hb3⟩
            have HB3 := Lib.hid (HB2.out.trans (hb3.mono HB2.out.size))
            have CD3 := Lib.hid (CD.out w3 (HE2.out.below hb3))
            obtain ⟨t0, t1, t2, t3⟩ := cells4 (HT2.out.below hb3 HT2.out.lt)
            clear hb3
            cases q
            · have HCF := Lib.hid (cf_yes HX.out (show cfB f S s nm ⟨g, id, nm, a, b⟩ = true by rw [HC.out]; rfl))
              go_wp2_with fail
              refine CD3.out.mono ?_
              rintro e w4 ⟨rfl, rfl⟩
              go_wp2_with fail
              go_roundw
              case rel => exact ⟨k + 1, by omega, by go_num, by rw [HCF.out], nm_no HX.out HNO.out HP.out, HB3.out⟩
              case measure => simp [intOf]; omega
            · have HCF := Lib.hid (cf_no HX.out (show cfB f S s nm ⟨g, id, nm, a, b⟩ = false by rw [HC.out]; rfl))
              go_wp2_with fail
              refine CD3.out.mono ?_
              rintro e w4 ⟨rfl, rfl⟩
              go_wp2_with fail
              go_roundw
              case rel => exact ⟨k + 1, by omega, by go_num, by rw [HCF.out], nm_no HX.out HNO.out HP.out, HB3.out⟩
              case measure => simp [intOf]; omega
        · have q1 : ¬ nm.toList = name.toList := str_ne hq
          have HCF := Lib.hid (cf_no HX.out (show cfB f S s name ⟨g, id, nm, a, b⟩ = false by unfold cfB; rw [decide_eq_false hq]; rfl))
          clear hq
          go_wp2_with fail
          go_roundw
          case rel => exact ⟨k + 1, by omega, by go_num, by rw [HCF.out], nm_no HX.out HNO.out HP.out, HB2.out⟩
          case measure => simp [intOf]; omega
      · have HR := Lib.hid (tak_yes HX.out HP.out)
        go_wp2_with fail
        refine CN.out.mono ?_
        rintro e w2 ⟨rfl, hb2⟩
        have HB2 := Lib.hid (HB1.out.trans ((HBW.out.trans (hb2.mono HBW.out.size)).mono HB1.out.size))
        clear hb2
        go_wp2_with fail
        go_ret
        exact ⟨by rw [HR.out]; rfl, HB2.out⟩
    · obtain rfl : k = N := by omega
      have HT : Hid (es.take k = es) := Lib.hid (List.take_of_length_le (by rw [HES.out.1]; omega))
      have HR : Hid (takE f S s name es = cfE f S s name (es.take k)) := Lib.hid (by rw [HT.out]; exact tak_end (by rw [← HT.out]; exact HNO.out))
      have HB2 := Lib.hid (HB1.out.trans ((HBE.out.trans (HB.out.mono HBE.out.size)).mono HB1.out.size))
      go_wp2_with fail
      go_ret
      exact ⟨by rw [HR.out]; rfl, HB2.out⟩
end Go.Proofs.Ytnpmjljpaaaljaa.Bok
