/- BookNames: its walk. -/
import Derived.Test.YtnpmjljpaaaljaaBookM
import Derived.Test.YtnpmjljpaaaljaaBookB
namespace Go.Proofs.Ytnpmjljpaaaljaa.Bok
open Go.ChangeMaps Go.MapKept Go.RowKit Go.Proofs.Ytnpmjljpaaaljaa.Nums Go.Proofs.Ytnpmjljpaaaljaa.Mem Go.Proofs.Ytnpmjljpaaaljaa.Clg
set_option linter.unusedVariables false
set_option linter.unusedSimpArgs false
set_option maxRecDepth 100000
set_option maxHeartbeats 2000000
def FewP (w : World) (e : Ending) (w' : World) : Prop := ∃ s : ByteArray, e = .returned (.string s) ∧ s.size ≤ 30 ∧ w = w'
theorem few_b (s : ByteArray) (hs : s.size ≤ maxLen) (w : World) : Calls Try.prog 32 #[.string s] w (FewP w) := by
  unfold maxLen at hs
  by_cases h : s.size ≤ 30
  · have h1 : (s.size : Int) ≤ 30 := by omega
    have h2 : min (s.size : Int) 30 = s.size := by omega
    go_enter Try.func32, Try.ntmps32
    go_wp2_with fail
    go_ret
    exact ⟨s, rfl, h, rfl⟩
  · have h1 : ¬ (s.size : Int) ≤ 30 := by omega
    have h2 : min (s.size : Int) 30 = 30 := by omega
    go_enter Try.func32, Try.ntmps32
    go_wp2_with fail
    go_ret
    exact ⟨s.extract 0 30, rfl, by rw [ByteArray.size_extract]; omega, rfl⟩
theorem ct_names_yes {s : ByteArray} (h : nameB s = true) (A : Option Addr) (c : Nat) : ctE 1 [1] (snOf [1] 1 A c) s [] [] = 0 := by
  unfold ctE
  rw [if_neg (by rw [h]; simp)]
  rfl
theorem ct_names_no {s : ByteArray} (h : nameB s = false) (A : Option Addr) (c : Nat) : ctE 1 [1] (snOf [1] 1 A c) s [] [] = 3 := by
  unfold ctE
  rw [if_pos h]
theorem names_walk (w : World) (s0 : ByteArray) (hs0 : s0.size ≤ maxLen) : Calls Try.prog 8 #[.string s0] w fun e w' => e = .returned (.bool true) ∧ Below w.heap.size w w' := by
  have HS0 := Lib.hid hs0
  clear hs0
  go_enter Try.func8, Try.ntmps8
  go_wp2_with fail
  refine (awake_b _).mono ?_
  rintro e w1 ⟨rfl, hb1⟩
  have HB1 := Lib.hid hb1
  have CF := Lib.hid (few_b s0 HS0.out w1)
  clear hb1
  go_wp2_with fail
  refine CF.out.mono ?_
  rintro e w1' ⟨s, rfl, hs, rfl⟩
  have HS := Lib.hid hs
  clear hs CF
  go_wp2_with fail
  refine (new_any w1 1 (by omega) (by omega)).mono ?_
  rintro e w2 ⟨F1, P, rfl, hl1, hf1, hb2⟩
  have HL2 := Lib.hid hl1
  have HF2 : Hid (∀ g, F1 g → w.heap.size ≤ g) := Lib.hid (fun g hg => Nat.le_trans HB1.out.size (hf1 g hg))
  have HB2 := Lib.hid (HB1.out.trans (hb2.mono HB1.out.size))
  have C1 := Lib.hid (begin_any hl1 (by simp))
  clear hl1 hf1 hb2
  go_wp2_with fail
  refine C1.out.mono ?_
  rintro e w3 ⟨rfl, hl3, ht3⟩
  have hb3 : Below w.heap.size w w3 := HB2.out.trans (ht3.below HB2.out.size HF2.out)
  have hf3 : ∀ g, New F1 w2 w3 g → w.heap.size ≤ g := fun g hg => by
    rcases hg with hg | hg
    · exact HF2.out g hg
    · have := HB2.out.size; omega
  have CN := Lib.hid (j_new1 (w0 := w) hl3 hf3 hb3 (by simp))
  clear hl3 ht3 hb3 hf3 C1
  go_wp2_with fail
  refine CN.out.mono ?_
  rintro e w4 ⟨B, rfl, hj4, _⟩
  have CT : Hid (Calls Try.prog 29 #[.pointer (some ⟨P, 0, none⟩), .int .u64 1] w4 fun e w' => ∃ A c, e = .returned (.agg #[.int .u64 1, .int .u64 2, .int .u64 2, .slice A 0 c]) ∧ SK w' (New No w4 w') (snOf [1] 1 A c) 0 ∧ J w w' (New No w4 w') P B [1] [] [] 0 ∧ KeepK No w4 w' ∧ Below w4.heap.size w4 w') := Lib.hid (j_take hj4 (own := 1) (by omega))
  clear hj4 CN
  go_wp2_with fail
  refine CT.out.mono ?_
  rintro e w5 ⟨A, c, rfl, hs5, hj5, _, _⟩
  have HS5 := Lib.hid hs5
  have HJ5 := Lib.hid hj5
  have CO := Lib.hid (one_any w5)
  clear hs5 hj5 CT
  go_wp2_with fail
  refine CO.out.mono ?_
  rintro e w6 ⟨d6, c6, rfl, hc6, _, hb6⟩
  obtain ⟨hj6, hk6⟩ := HJ5.out.below hb6
  have hs6 := HS5.out.keep hk6 hb6.size (fun _ h => h)
  obtain ⟨b, hb⟩ : ∃ b, nameB s = b := ⟨_, rfl⟩
  have CNA := fun W => name_any s W (by have := HS.out; omega)
  have CRN := fun W => rname_any s W (by have := HS.out; omega)
  rw [hb] at CNA CRN
  have CNA := Lib.hid CNA
  have CRN := Lib.hid CRN
  cases b
  · have CZ : Hid (Calls Try.prog 34 #[.pointer (some ⟨B, 0, none⟩), .pointer (some ⟨P, 0, none⟩), .agg #[.int .u64 1, .int .u64 2, .int .u64 2, .slice A 0 c], .string s, .slice (some ⟨d6, 0, none⟩) 1 c6] w6 fun e w' => e = .returned (.tuple #[.int .u64 0, .int .i64 3]) ∧ GoJ w w6 (New No w4 w5) P B [1] [] [] 0 w') := Lib.hid (j_ct_no (s := snOf [1] 1 A c) (name := s) hj6 hs6 (by simp) (by simp) hc6 (by have := HS.out; omega) (ct_names_no hb A c) (by omega))
    clear hj6 hk6 hs6 hc6 hb6 hb HS5 HJ5
    go_wp2_with fail
    refine CZ.out.mono ?_
    rintro e w7 ⟨rfl, hj7, _, _⟩
    have HB7 := Lib.hid hj7.bel
    clear hj7
    go_wp2_with fail
    refine (CNA.out w7).mono ?_
    rintro e w8 ⟨rfl, rfl⟩
    go_wp2_with fail
    refine (CRN.out w7).mono ?_
    rintro e w8 ⟨rfl, rfl⟩
    go_wp2_with fail
    refine (CRN.out w7).mono ?_
    rintro e w8 ⟨rfl, rfl⟩
    go_wp2_with fail
    go_ret
    exact ⟨by first | rfl | simp, HB7.out⟩
  · have CZ : Hid (Calls Try.prog 34 #[.pointer (some ⟨B, 0, none⟩), .pointer (some ⟨P, 0, none⟩), .agg #[.int .u64 1, .int .u64 2, .int .u64 2, .slice A 0 c], .string s, .slice (some ⟨d6, 0, none⟩) 1 c6] w6 fun e w' => ∃ g d c', e = .returned (.tuple #[.int .u64 1, .int .i64 0]) ∧ GoJ w w6 (New No w4 w5) P B [1] [⟨⟨g, 1, s, 1, 0⟩, d, c'⟩] [] 1 w') := Lib.hid (j_ct_yes (s := snOf [1] 1 A c) (name := s) hj6 hs6 (by simp) (by simp) hc6 (by have := HS.out; omega) (ct_names_yes hb A c) (by omega))
    clear hj6 hk6 hs6 hc6 hb6 hb HS5 HJ5
    go_wp2_with fail
    refine CZ.out.mono ?_
    rintro e w7 ⟨g, d, c', rfl, hj7, _, _⟩
    have HB7 := Lib.hid hj7.bel
    clear hj7
    go_wp2_with fail
    refine (CNA.out w7).mono ?_
    rintro e w8 ⟨rfl, rfl⟩
    go_wp2_with fail
    refine (CRN.out w7).mono ?_
    rintro e w8 ⟨rfl, rfl⟩
    go_wp2_with fail
    refine (CRN.out w7).mono ?_
    rintro e w8 ⟨rfl, rfl⟩
    go_wp2_with fail
    go_ret
    exact ⟨by first | rfl | simp, HB7.out⟩
end Go.Proofs.Ytnpmjljpaaaljaa.Bok
