/- The document's example of a journal (alive). -/
import Derived.Test.YtdhiofbimebbkaaDoorJn
import Derived.Test.YtdhiofbimebbkaaDoorVp
namespace Go.Proofs.YtdhiofbimebbkaaDoor
open Go.RowKit Go.Maps Go.Sort

theorem jx_len : (recI (3, [120])).length = 10 := by decide +kernel
theorem jy_len : (recI (1, [])).length = 9 := by decide +kernel
theorem jx_good : GoodI (3, [120]) := ⟨by decide, by decide⟩
theorem jy_good : GoodI (1, []) := ⟨by decide, by decide⟩
theorem jxy_good : GoodL [] [(3, [120]), (1, [])] := ⟨jx_good, rfl, jy_good, rfl, trivial⟩
theorem jx_file : fileL [(3, [120])] = recI (3, [120]) := by simp [fileL]
theorem jxy_file : fileL [(3, [120]), (1, [])] = recI (3, [120]) ++ recI (1, []) := by simp [fileL]
theorem jx_scan : scanL [] ((recI (3, [120]) ++ recI (1, [])).take 15) = [(3, [120])] := by
  rw [List.take_append, List.take_of_length_le (by rw [jx_len]; decide), jx_len, scanL_item jx_good rfl, scanL_torn jy_good (by rw [jy_len]; decide)]
  rfl
theorem jx_take : ((recI (3, [120]) ++ recI (1, [])).take 15).length = 15 := by
  rw [List.length_take, List.length_append, jx_len, jy_len]; rfl
theorem itms_one {L : List Ent} {x : Itm} (h : itms L = [x]) : ∃ e, L = [e] ∧ e.key = x.1 ∧ e.data = x.2 := by
  match L, h with
  | [e], h =>
    have h2 : e.itm = x := by simpa [itms] using h
    exact ⟨e, rfl, by rw [← h2]; rfl, by rw [← h2]; rfl⟩
set_option maxHeartbeats 4000000 in
set_option maxRecDepth 100000 in
theorem jalive_any (w : World) (ht : TabAt w) : Calls Tryd.prog 7 #[] w fun e w' => e = .returned (.bool true) ∧ Below w.heap.size w w' := by
  have hcv := conv_const
  have HT := Lib.hid ht
  clear ht
  go_enter Tryd.func7, Tryd.ntmps7
  go_wp2_with fail
  refine (new_disk 1000 _).mono ?_
  rintro e w1 ⟨dp, X1, rfl, h1⟩
  rw [show posP 1000 = 1000 from rfl] at h1
  have C1 := Lib.hid (open_s0 h1 (by decide) HT.out)
  clear h1
  go_wp2_with fail
  refine C1.out.mono ?_
  rintro e w2 ⟨jp, jm, X2, Y2, L2, rfl, h2, i2⟩
  have h2' := h2.alloc (.cells #[.int .u8 120] 5 (1, 2))
  have C2 := Lib.hid (jb_put (c := 1) (k := 3) h2' (sJ_ok (by decide) (by decide)) (bytes_new w2 [120] (1, 2)) (by decide) (by decide) (by decide) HT.out (by rw [i2]; decide))
  rw [i2, show jn.data.toList = [106] from rfl, sJ_put rfl (by rw [jx_len]; decide), jx_len, List.nil_append, List.nil_append] at C2
  clear h2 h2' C1
  go_wp2_with fail
  refine C2.out.mono ?_
  rintro e w3 ⟨rfl, X3, Y3, L3, h3, i3⟩
  simp only at h3 i3
  have C3 := Lib.hid (jb_sync h3 (sJ_ok (by rw [jx_len]; decide) (by decide)) (by decide))
  rw [show jn.data.toList = [106] from rfl, sJ_sync, jx_len, i3] at C3
  clear h3 C2
  go_wp2_with fail
  refine C3.out.mono ?_
  rintro e w4 ⟨rfl, X4, Y4, L4, h4, i4⟩
  simp only at h4 i4
  have C4 := Lib.hid (jb_put (A := none) (m := 0) (c := 0) (data := []) (k := 1) h4 (sJ_ok (by rw [jx_len]; decide) (by decide)) ⟨rfl, fun h => absurd h (Nat.lt_irrefl 0)⟩ (by decide) (by decide) (by decide) HT.out (by rw [i4, jx_file, jx_len]; decide))
  rw [i4, show jn.data.toList = [106] from rfl, sJ_put rfl (by rw [jy_len]; decide), jy_len] at C4
  clear h4 C3
  go_wp2_with fail
  refine C4.out.mono ?_
  rintro e w5 ⟨rfl, X5, Y5, L5, h5, i5⟩
  simp only [List.cons_append, List.nil_append] at h5 i5
  have C5 := Lib.hid (jb_put (A := none) (m := 0) (c := 0) (data := []) (k := 3) h5 (sJ_ok (by rw [List.length_append, jx_len, jy_len]; decide) (by decide)) ⟨rfl, fun h => absurd h (Nat.lt_irrefl 0)⟩ (by decide) (by decide) (by decide) HT.out (by rw [i5, jxy_file, List.length_append, jx_len, jy_len]; decide))
  rw [i5, show jn.data.toList = [106] from rfl, sJ_twice rfl] at C5
  clear h5 C4
  go_wp2_with fail
  refine C5.out.mono ?_
  rintro e w6 ⟨rfl, X6, Y6, L6, h6, i6⟩
  simp only at h6 i6
  have h6' := h6.db.alloc (.cells #[.int .i64 5] 3)
  have C6 := Lib.hid (h6'.disk.crash (sJ_ok (by rw [List.length_append, jx_len, jy_len]; decide) (by decide)) _ 1 1 [5] (ints_new w6 5) (by decide) (fun _ b o e hx => by injection e with e; injection e with e _ _; have := h6.disk.lt hx; omega))
  rw [sJ_crash (m := 15) 5 (by rw [List.length_append, jx_len, jy_len]; decide) (by rw [List.length_append, jx_len, jy_len]; decide), List.length_append, jx_len, jy_len] at C6
  clear C5
  go_wp2_with fail
  refine C6.out.mono ?_
  rintro e w7 ⟨rfl, ha⟩
  obtain ⟨X7, h7, _, _⟩ := h6'.after ha
  have C7 := Lib.hid (open_sJ (its := [(3, [120]), (1, [])]) (n := 10) h7 (by rw [jx_take]; decide) (by rw [jx_take]; decide) (by rw [jx_take]; decide) HT.out ⟨jxy_good, 15, by rw [jxy_file]⟩ (by decide) (by rw [jx_scan, jx_file, jx_len]) (by rw [jx_take]; decide))
  rw [jx_scan] at C7
  clear ha h6 h6' h7 C6
  go_wp2_with fail
  refine C7.out.mono ?_
  rintro e w8 ⟨kp, km, X8, Y8, L8, rfl, h8, i8⟩
  clear C7
  have a1 := Lib.hid (has_any (k := 3) h8.jat (wf_key (by decide)))
  rw [show hasE L8 3 = hasK (itms L8) 3 from hasE_hasK L8 3, i8, show hasK [(3, [120])] 3 = true from rfl] at a1
  have a2 := Lib.hid (has_any (k := 1) h8.jat (wf_key (by decide)))
  rw [show hasE L8 1 = hasK (itms L8) 1 from hasE_hasK L8 1, i8, show hasK [(3, [120])] 1 = false from rfl] at a2
  obtain ⟨en, rfl, e1, e2⟩ := itms_one i8
  have C8 := Lib.hid (get_yes h8.jat (List.mem_singleton.2 rfl) (by rw [e1]; decide) (by rw [e2]; decide))
  rw [e1, e2] at C8
  have H8 := Lib.hid h8
  have E1 := Lib.hid e1
  have E2 := Lib.hid e2
  have I8 := Lib.hid i8
  clear h8 e1 e2 i8
  go_wp2_with fail
  refine a1.out.mono ?_
  rintro e w9 ⟨rfl, rfl⟩
  go_wp2_with fail
  refine a2.out.mono ?_
  rintro e w9 ⟨rfl, rfl⟩
  go_wp2_with fail
  refine C8.out.mono ?_
  rintro e w9 ⟨A9, c9, rfl, hb9, hl9, _⟩
  have h9 := H8.out.below hl9
  have hst : (convert 30 9 (.slice A9 1 c9)).run Tryd.prog w9 = .ok (.string ⟨#[120]⟩) w9 := conv_str hb9 c9
  have C9 := Lib.hid (keys_all h9.jat (by show 1 ≤ _; decide))
  have H9 := Lib.hid h9
  clear hb9 hl9 h9 a1 a2 C8
  simp only [List.length_cons, List.length_nil, Nat.zero_add, Nat.reduceAdd]
  go_wp2_with fail
  refine C9.out.mono ?_
  rintro e w10 ⟨v, rfl, hr, hb⟩
  have h10 := H9.out.below hb
  obtain ⟨A10, c10, rfl⟩ : ∃ A c, v = .slice A 1 c := by
    have hl : (keyL [en]).length = 1 := by unfold keyL; rw [List.length_mergeSort]; rfl
    rw [hl] at hr
    rcases hr.2 with ⟨e, h0⟩ | ⟨g, cap, cur, e, _⟩
    · cases h0
    · exact ⟨_, _, e⟩
  have C10 := Lib.hid (size_any h10.jat)
  rw [I8.out, jx_file, jx_len] at C10
  have HO := Lib.hid h10.old
  clear hr hb h10 C9
  go_wp2_with fail
  refine C10.out.mono ?_
  rintro e w11 ⟨rfl, rfl⟩
  go_wp2
  go_ret
  exact ⟨rfl, HO.out⟩
end Go.Proofs.YtdhiofbimebbkaaDoor
