/- JournalTorn's walk. -/
import Derived.Test.YtdhiofbimebbkaaDoorJo
namespace Go.Proofs.YtdhiofbimebbkaaDoor
open Go.RowKit Go.Maps Go.Sort

theorem file_one (x : Itm) : fileL [x] = recI x := by simp [fileL]
theorem file_two (x y : Itm) : fileL [x, y] = recI x ++ recI y := by simp [fileL]
theorem good_two {x y : Itm} (hx : GoodI x) (hy : GoodI y) (h : x.1 ≠ y.1) : GoodL [] [x, y] := ⟨hx, rfl, hy, by simp [hasK]; exact h, trivial⟩
theorem scan_two {x y : Itm} (hx : GoodI x) (hy : GoodI y) (h : x.1 ≠ y.1) {m r1 r2 q : Nat} (h1 : r1 = (recI x).length) (h2 : r2 = (recI y).length) (hm : m = r1 + min q r2) :
    (q < r2 → scanL [] ((recI x ++ recI y).take m) = [x]) ∧ (r2 ≤ q → scanL [] ((recI x ++ recI y).take m) = [x, y]) := by
  refine ⟨fun hq => ?_, fun hq => ?_⟩
  · rw [List.take_append, List.take_of_length_le (by omega), scanL_item hx rfl, scanL_torn hy (by omega)]; rfl
  · rw [List.take_of_length_le (by rw [List.length_append]; omega), ← file_two, scan_all (good_two hx hy h)]; rfl
def TornPost (w : World) (e : Ending) (w' : World) : Prop := e = .returned (.bool true) ∧ Below w.heap.size w w'
set_option maxHeartbeats 4000000 in
set_option maxRecDepth 100000 in
theorem journalTorn_walk {w : World} {A B : Option Addr} {na ca nb cb : Nat} {xs ys : List UInt8} (k : Int) (ha : BytesAt w A na xs) (hna : na ≤ maxLen) (hb : BytesAt w B nb ys) (hnb : nb ≤ maxLen) (ht : TabAt w) :
    Calls Tryd.prog 5 #[.slice A na ca, .slice B nb cb, .int .i64 k] w (TornPost w) := by
  have HT := Lib.hid ht
  have HA := Lib.hid ha
  have HB := Lib.hid hb
  unfold maxLen at hna hnb
  clear ht ha hb
  go_enter Tryd.func5, Tryd.ntmps5
  go_wp2_with fail
  refine (new_disk 1048576 _).mono ?_
  rintro e w1 ⟨dp, X1, rfl, h1⟩
  rw [show posP 1048576 = 1048576 from rfl] at h1
  have CV := Lib.hid (jalive_any w1 (HT.out.below h1.old))
  go_wp2_with fail
  refine CV.out.mono ?_
  rintro e w1' ⟨rfl, hbv⟩
  replace h1 := h1.below hbv
  clear hbv CV
  by_cases hl : (500 : Int) < (na : Int) ∨ (500 : Int) < (nb : Int)
  · have HO := Lib.hid h1.old
    clear h1
    by_cases hla : (500 : Int) < (na : Int)
    · go_wp2
      go_ret
      exact ⟨rfl, HO.out⟩
    · have hlb : (500 : Int) < (nb : Int) := by omega
      go_wp2
      go_ret
      exact ⟨rfl, HO.out⟩
  · have hla : ¬ (500 : Int) < (na : Int) := by omega
    have hlb : ¬ (500 : Int) < (nb : Int) := by omega
    have hal := HA.out.1
    have hbl := HB.out.1
    obtain ⟨r1, hr1⟩ : ∃ r1, r1 = (recI (7, xs)).length := ⟨_, rfl⟩
    obtain ⟨r2, hr2⟩ : ∃ r2, r2 = (recI (5, ys)).length := ⟨_, rfl⟩
    have hb1 := recI_len (7, xs)
    have hb2 := recI_len (5, ys)
    rw [← hr1] at hb1
    rw [← hr2] at hb2
    simp only at hb1 hb2
    have hg1 : GoodI (7, xs) := ⟨by show 7 ≤ _; decide, by show xs.length ≤ _; omega⟩
    have hg2 : GoodI (5, ys) := ⟨by show 5 ≤ _; decide, by show ys.length ≤ _; omega⟩
    have hR : 9 ≤ r1 ∧ r1 ≤ 517 ∧ 9 ≤ r2 ∧ r2 ≤ 517 := by omega
    have HR := Lib.hid hR
    have HR1 := Lib.hid hr1
    have HR2 := Lib.hid hr2
    have HG1 := Lib.hid hg1
    have HG2 := Lib.hid hg2
    have HNA := Lib.hid (show na ≤ 500 ∧ nb ≤ 500 by omega)
    have C1 := Lib.hid (open_s0 h1 (by decide) HT.out)
    clear h1 hl hal hbl hb1 hb2 hg1 hg2 hR hr1 hr2
    go_wp2_with fail
    refine C1.out.mono ?_
    rintro e w2 ⟨jp, jm, X2, Y2, L2, rfl, h2, i2⟩
    have C2 := Lib.hid (jb_put (c := ca) (k := 7) h2 (sJ_ok (Nat.zero_le _) (by decide)) (HA.out.below h2.old) (by decide) (by have := HNA.out; omega) (by decide) HT.out (by rw [i2]; decide))
    rw [i2, show jn.data.toList = [106] from rfl, sJ_put rfl (by rw [← HR1.out]; have := HR.out; omega), ← HR1.out, List.nil_append, List.nil_append] at C2
    clear h2 C1
    go_wp2_with fail
    refine C2.out.mono ?_
    rintro e w3 ⟨rfl, X3, Y3, L3, h3, i3⟩
    simp only at h3 i3
    have C3 := Lib.hid (jb_sync h3 (sJ_ok (by rw [← HR1.out]; have := HR.out; omega) (by omega)) (by decide))
    rw [show jn.data.toList = [106] from rfl, sJ_sync, ← HR1.out, i3] at C3
    clear h3 C2
    go_wp2_with fail
    refine C3.out.mono ?_
    rintro e w4 ⟨rfl, X4, Y4, L4, h4, i4⟩
    simp only at h4 i4
    have S4 := Lib.hid (size_any h4.jat)
    rw [i4, file_one, ← HR1.out] at S4
    have C4 := Lib.hid (jb_put (c := cb) (k := 5) h4 (sJ_ok (by rw [← HR1.out]; have := HR.out; omega) (by omega)) (HB.out.below h4.old) (by decide) (by have := HNA.out; omega) (by decide) HT.out (by rw [i4, file_one, ← HR1.out]; have := HR.out; omega))
    rw [i4, show jn.data.toList = [106] from rfl, sJ_put rfl (by rw [← HR2.out]; have := HR.out; omega), ← HR2.out] at C4
    clear h4 C3
    go_wp2_with fail
    refine S4.out.mono ?_
    rintro e w4' ⟨rfl, rfl⟩
    go_wp2_with fail
    refine C4.out.mono ?_
    rintro e w5 ⟨rfl, X5, Y5, L5, h5, i5⟩
    simp only [List.cons_append, List.nil_append] at h5 i5
    obtain ⟨r12, hr12⟩ : ∃ r12, r12 = r1 + r2 := ⟨_, rfl⟩
    have S5 := Lib.hid (size_any h5.jat)
    rw [i5, file_two, List.length_append, ← HR1.out, ← HR2.out, ← hr12] at S5
    have HR12 := Lib.hid hr12
    have H5 := Lib.hid h5
    have I5 := Lib.hid i5
    have w0' : IntKind.i64.wrap ((r12 : Int) - (r1 : Int)) = (r2 : Int) := by have := HR.out; rw [IntKind.wrap_i64]; omega
    have w1' : IntKind.i64.wrap ((r1 : Int) + (r2 : Int)) = (r12 : Int) := by have := HR.out; rw [IntKind.wrap_i64]; omega
    clear h5 i5 hr12 C4 S4
    go_wp2_with fail
    refine S5.out.mono ?_
    rintro e w5' ⟨rfl, rfl⟩
    obtain ⟨hq0, hq1⟩ := and_le k 1023 1023 rfl (by decide)
    obtain ⟨q, hq⟩ : ∃ q : Nat, bits BinOp.and IntKind.i64 k 1023 = (q : Nat) := ⟨(bits BinOp.and IntKind.i64 k 1023).toNat, by omega⟩
    obtain ⟨m, hm⟩ : ∃ m, m = r1 + min q r2 := ⟨_, rfl⟩
    have hmr : m ≤ r1 + r2 := by have := Nat.min_le_right q r2; omega
    have hxl : (recI (7, xs) ++ recI (5, ys)).length = r1 + r2 := by rw [List.length_append, ← HR1.out, ← HR2.out]
    have h6' := H5.out.db.alloc (.cells #[.int .i64 (q : Int)] 3)
    have C6 := h6'.disk.crash (sJ_ok (by rw [hxl]; have := HR.out; omega) (by omega)) _ 1 1 [(q : Int)] (ints_new w5 q) (by decide) (fun _ b o e hx => by injection e with e; injection e with e _ _; have := H5.out.disk.lt hx; omega)
    rw [sJ_crash (m := m) (q : Int) (by rw [hxl]; omega) (by rw [hxl, hm]; congr 2; omega), hxl] at C6
    have hml : ((recI (7, xs) ++ recI (5, ys)).take m).length = m := by rw [List.length_take, hxl]; omega
    obtain ⟨hsc1, hsc2⟩ := scan_two (m := m) (q := q) HG1.out HG2.out (by show (7 : Nat) ≠ 5; decide) HR1.out HR2.out hm
    have C66 := Lib.hid C6
    have H6 := Lib.hid h6'
    have HM := Lib.hid (show m = r1 + min q r2 ∧ m ≤ r1 + r2 from ⟨hm, hmr⟩)
    have HML := Lib.hid hml
    have HXL := Lib.hid hxl
    have HS1 := Lib.hid hsc1
    have HS2 := Lib.hid hsc2
    have hqn : q ≤ 1023 := by omega
    clear C6 h6' hm hmr hml hxl hsc1 hsc2 hq0 hq1 S5
    go_wp2_with fail
    refine C66.out.mono ?_
    rintro e w7 ⟨rfl, ha⟩
    obtain ⟨X7, h7, _, _⟩ := H6.out.after ha
    clear ha C66 H6 H5 hq
    have hcl : CleanB [(7, xs), (5, ys)] ((recI (7, xs) ++ recI (5, ys)).take m) := ⟨good_two HG1.out HG2.out (by show (7 : Nat) ≠ 5; decide), m, by rw [file_two]⟩
    rcases Nat.lt_or_ge q r2 with hqr | hqr
    · have hsc := HS1.out hqr
      have hmq : m = r1 + q := by have := HM.out.1; rw [Nat.min_eq_left (Nat.le_of_lt hqr)] at this; exact this
      have C7 := open_sJ (its := [(7, xs), (5, ys)]) (n := r1) h7 (by rw [HML.out]; have := HR.out; omega) (by rw [HML.out]; have := HR.out; omega) (by rw [HML.out]; exact Nat.le_refl _) HT.out hcl (by show 2 ≤ _; decide) (by rw [hsc, file_one, HR1.out]) (by rw [HML.out]; omega)
      rw [hsc, HML.out] at C7
      have C77 := Lib.hid C7
      have HMQ := Lib.hid hmq
      clear C7 h7 hcl hsc hmq
      go_wp2_with fail
      refine C77.out.mono ?_
      rintro e w8 ⟨kp, km, X8, Y8, L8, rfl, h8, i8⟩
      have a1 := Lib.hid (has_any (k := 7) h8.jat (wf_key (by decide)))
      rw [show hasE L8 7 = hasK (itms L8) 7 from hasE_hasK L8 7, i8, show hasK [(7, xs)] 7 = true from rfl] at a1
      have a2 := Lib.hid (has_any (k := 5) h8.jat (wf_key (by decide)))
      rw [show hasE L8 5 = hasK (itms L8) 5 from hasE_hasK L8 5, i8, show hasK [(7, xs)] 5 = false from rfl] at a2
      have S8 := Lib.hid (size_any h8.jat)
      rw [i8, file_one, ← HR1.out] at S8
      have hrl : (((recI (7, xs) ++ recI (5, ys)).take m).take r1).length = r1 := by rw [List.length_take, HML.out]; have := HMQ.out; omega
      have C8 := Lib.hid (jb_put (c := cb) (k := 5) h8 (sJ_ok (by rw [hrl]; have := HR.out; omega) (by have := HR.out; have := HMQ.out; omega)) (HB.out.below h8.old) (by decide) (by have := HNA.out; omega) (by decide) HT.out (by rw [i8, file_one, ← HR1.out]; have := HR.out; omega))
      rw [i8, show jn.data.toList = [106] from rfl, sJ_put rfl (by rw [← HR2.out]; have := HR.out; have := HMQ.out; omega), ← HR2.out] at C8
      have hqI : (q : Int) < (r2 : Int) := by omega
      have hqI2 : ¬ (r2 : Int) ≤ (q : Int) := by omega
      clear h8 hrl C77
      go_wp2_with fail
      refine a1.out.mono ?_
      rintro e w9 ⟨rfl, rfl⟩
      go_wp2_with fail
      refine a2.out.mono ?_
      rintro e w9 ⟨rfl, rfl⟩
      go_wp2_with fail
      refine S8.out.mono ?_
      rintro e w9 ⟨rfl, rfl⟩
      go_wp2_with fail
      refine C8.out.mono ?_
      rintro e w9 ⟨rfl, X9, Y9, L9, h9, i9⟩
      simp only [List.cons_append, List.nil_append] at h9 i9
      have a3 := Lib.hid (has_any (k := 5) h9.jat (wf_key (by decide)))
      rw [show hasE L9 5 = hasK (itms L9) 5 from hasE_hasK L9 5, i9, show hasK [(7, xs), (5, ys)] 5 = true from rfl] at a3
      have HO := Lib.hid h9.old
      clear h9 i9 C8 S8 a1 a2
      go_wp2_with fail
      refine a3.out.mono ?_
      rintro e w10 ⟨rfl, rfl⟩
      go_wp2
      go_ret
      exact ⟨rfl, HO.out⟩
    · have hsc := HS2.out hqr
      have hmq : m = r1 + r2 := by have := HM.out.1; rw [Nat.min_eq_right hqr] at this; exact this
      have C7 := open_sJ (its := [(7, xs), (5, ys)]) (n := r1 + r2) h7 (by rw [HML.out]; have := HR.out; omega) (by rw [HML.out]; have := HR.out; omega) (by rw [HML.out]; exact Nat.le_refl _) HT.out hcl (by show 2 ≤ _; decide) (by rw [hsc, file_two, List.length_append, HR1.out, HR2.out]) (by rw [HML.out]; omega)
      rw [hsc, HML.out] at C7
      have C77 := Lib.hid C7
      have HMQ := Lib.hid hmq
      clear C7 h7 hcl hsc hmq
      go_wp2_with fail
      refine C77.out.mono ?_
      rintro e w8 ⟨kp, km, X8, Y8, L8, rfl, h8, i8⟩
      have a1 := Lib.hid (has_any (k := 7) h8.jat (wf_key (by decide)))
      rw [show hasE L8 7 = hasK (itms L8) 7 from hasE_hasK L8 7, i8, show hasK [(7, xs), (5, ys)] 7 = true from rfl] at a1
      have a2 := Lib.hid (has_any (k := 5) h8.jat (wf_key (by decide)))
      rw [show hasE L8 5 = hasK (itms L8) 5 from hasE_hasK L8 5, i8, show hasK [(7, xs), (5, ys)] 5 = true from rfl] at a2
      have hrl : (((recI (7, xs) ++ recI (5, ys)).take m).take (r1 + r2)).length = r1 + r2 := by rw [List.length_take, HML.out]; have := HMQ.out; omega
      have C8 := Lib.hid (jb_put (c := cb) (k := 5) h8 (sJ_ok (by rw [hrl]; have := HR.out; omega) (by have := HR.out; have := HMQ.out; omega)) (HB.out.below h8.old) (by decide) (by have := HNA.out; omega) (by decide) HT.out (by rw [i8, file_two, List.length_append, ← HR1.out, ← HR2.out]; have := HR.out; omega))
      rw [i8, show jn.data.toList = [106] from rfl, sJ_twice rfl] at C8
      have hqI : ¬ (q : Int) < (r2 : Int) := by omega
      have hqI2 : (r2 : Int) ≤ (q : Int) := by omega
      clear h8 hrl C77
      go_wp2_with fail
      refine a1.out.mono ?_
      rintro e w9 ⟨rfl, rfl⟩
      go_wp2_with fail
      refine a2.out.mono ?_
      rintro e w9 ⟨rfl, rfl⟩
      go_wp2_with fail
      refine C8.out.mono ?_
      rintro e w9 ⟨rfl, X9, Y9, L9, h9, i9⟩
      simp only at h9 i9
      have S9 := Lib.hid (size_any h9.jat)
      rw [i9, file_two, List.length_append, ← HR1.out, ← HR2.out, ← HR12.out] at S9
      have HO := Lib.hid h9.old
      clear h9 i9 C8 a1 a2
      go_wp2_with fail
      refine S9.out.mono ?_
      rintro e w10 ⟨rfl, rfl⟩
      go_wp2
      go_ret
      exact ⟨rfl, HO.out⟩
end Go.Proofs.YtdhiofbimebbkaaDoor
