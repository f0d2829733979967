/- Rename. -/
import Derived.Test.YteokiaeojgjpdaaVi
namespace Go.Proofs.Yteokiaeojgjpdaa
open Go.RowKit Go.Maps

def renK (a z : List UInt8) (b : List UInt8) (sf : Nat) (s : Sta) : Sta :=
  { s with V := vins (z, b, sf) (vdel z (vdel a s.V)), free := s.free + (match vlook z (vdel a s.V) with | some t => t.2.1.length | none => 0) }
def renameS (a z : List UInt8) (s : Sta) : Int × Sta :=
  if mayC s.down z.length ≠ 0 then (mayC s.down z.length, s)
  else onFile a s fun t => stepS s fun s => renK a z t.2.1 t.2.2 s
section
variable {w : World} {dp bm free fuse : Nat} {M : List Fl} {down : Bool}
theorem dropN_view (nm : List UInt8) (L : List Fl) : (match vlook nm (L.map vw) with | some t => t.2.1.length | none => 0) = dropN (look nm L) := by
  rw [map_look]; cases look nm L <;> rfl
theorem look_del_same (nm : List UInt8) (L : List Fl) : look nm (delF nm L) = none := by
  unfold look delF
  rw [List.find?_eq_none]
  intro f hf
  have := (mem_del.1 hf).2
  simpa using this
set_option maxHeartbeats 2000000 in
set_option maxRecDepth 100000 in
theorem rename1_any (h : FsAt w dp bm M free fuse down) (p0 p1 p2 p3 : Nat) (a z : ByteArray) (ha : a.size ≤ maxLen) (hz : z.size ≤ maxLen) (hlen : M.length < maxLen) {f : Fl} (hf : f ∈ M) (hfn : f.name = a.data.toList)
    (c0 : w.cell? ⟨p0, 0, none⟩ = some (.pointer (some ⟨dp, 0, none⟩))) (c1 : w.cell? ⟨p1, 0, none⟩ = some (.string a)) (c2 : w.cell? ⟨p2, 0, none⟩ = some (.string z)) (c3 : w.cell? ⟨p3, 0, none⟩ = some (.pointer (some ⟨f.fb, 0, none⟩)))
    (hp0 : ¬ Own dp bm M p0) (hp1 : ¬ Own dp bm M p1) (hp2 : ¬ Own dp bm M p2) (hp3 : ¬ Own dp bm M p3) (hfr : ∀ f ∈ M, free + f.bytes.length ≤ 9223372036854775807) (hfr0 : free ≤ 9223372036854775807) :
    Calls Try.prog 108 #[.pointer (some ⟨p0, 0, none⟩), .pointer (some ⟨p1, 0, none⟩), .pointer (some ⟨p2, 0, none⟩), .pointer (some ⟨p3, 0, none⟩)] w fun e w' => e = .returned (.tuple #[]) ∧
      FsAt w' dp bm (insF ⟨z.data.toList, f.bytes, f.safe, f.fb, f.v⟩ (delF z.data.toList (delF a.data.toList M))) (free + dropN (look z.data.toList (delF a.data.toList M))) fuse down ∧ Kept (Own dp bm M) w w' := by
  have mixed : Try.prog.follows .mixedOrders = true := by kernel_rfl
  have t0 : w.cell? ⟨dp, 0, none⟩ = some (.map (some bm)) := h.top.cell 0
  have nd : ∀ p, ¬ Own dp bm M p → p ≠ bm ∧ p ≠ dp := fun p hp => ⟨fun e => hp (.inr (.inl e)), fun e => hp (.inl e)⟩
  obtain ⟨w1, hrun, hmp, hturn⟩ := map_del h.drew.mp a ha 0
  have hrun' : (Builtin.delete_ #[120, 9] 0 #[.map (some bm), .string a]).run Try.prog w.drew = .ok (.tuple #[]) w1 := hrun
  have hF1 := h.drew.without hturn.grown a.data.toList hmp
  have kb1 : ∀ p, p < w.heap.size → p ≠ bm → w1.heap[p]? = w.heap[p]? := fun p hp hne => hturn.grown.block p hp (by intro e; injection e with e; exact hne e)
  have kc1 : ∀ p u, p ≠ bm → w.cell? ⟨p, 0, none⟩ = some u → w1.cell? ⟨p, 0, none⟩ = some u := fun p u hne hc => (World.cell?_of_block (a := ⟨p, 0, none⟩) (kb1 p (cell_lt hc) hne)).trans hc
  have x0 := kc1 p0 _ (nd p0 hp0).1 c0
  have x1 := kc1 p1 _ (nd p1 hp1).1 c1
  have x2 := kc1 p2 _ (nd p2 hp2).1 c2
  have x3 := kc1 p3 _ (nd p3 hp3).1 c3
  have xt := kc1 dp _ h.ap.1 t0
  have hdn : free + dropN (look z.data.toList (delF a.data.toList M)) ≤ 9223372036854775807 := by
    cases hl : look z.data.toList (delF a.data.toList M) with
    | none => exact hfr0
    | some g => exact hfr g (mem_del.1 (look_mem hl).1).1
  have HD := Lib.hid (drop_any hF1 z hz hdn)
  have hK1 : Kept (Own dp bm M) w w1 := Kept.grown (Kept.drew (Kept.refl _ w)) hturn.grown (fun j hj => by cases hj; exact .inl (.inr (.inl rfl)))
  have hsz1 := hturn.grown.size
  have hFf : FileAt w1 f := by
    refine (h.files f hf).keep (kb1 _ (h.files f hf).lt.1 (h.ap.2.1 f hf).2.1) fun r hr => kb1 r ((h.files f hf).lt.2 r hr) ?_
    intro e; exact (h.ap.2.1 f hf).2.2.2 (by rw [hr, e])
  have hap := h.ap
  have HH := Lib.hid h
  have HF1 := Lib.hid hF1
  have HFf := Lib.hid hFf
  have HK1 := Lib.hid hK1
  have hlen2 : (delF z.data.toList (delF a.data.toList M)).length < maxLen := Nat.lt_of_le_of_lt (Nat.le_trans (List.length_filter_le _ _) (List.length_filter_le _ _)) hlen
  clear hrun hmp hturn hF1 hFf hK1 kb1 kc1 hdn
  go_enter Try.func108, Try.ntmps108
  go_wp2_with fail
  refine wp_region_held_drew (S := fun W => W.cell? ⟨p0, 0, none⟩ = some (.pointer (some ⟨dp, 0, none⟩)) ∧ W.cell? ⟨p1, 0, none⟩ = some (.string a) ∧ W.cell? ⟨dp, 0, none⟩ = some (.map (some bm))) mixed ⟨c0, c1, t0⟩ (fun hS => ?_)
  refine wpAnyH_take (i := 0) (v := .pointer (some ⟨dp, 0, none⟩)) rfl (by kernel_rfl) (by kernel_rfl) (by kernel_rfl) (fun _ _ _ h => h) (Or.inl ⟨by rfl, fun W hW => by obtain ⟨h0, h1, h2⟩ := hW; go_simp⟩) hS ?_
  refine wpAnyH_take (i := 1) (v := .pointer (some ⟨dp, 0, none⟩)) rfl (by kernel_rfl) (by kernel_rfl) (by kernel_rfl) (fun _ _ _ h => h) (Or.inl ⟨by rfl, fun W hW => by obtain ⟨h0, h1, h2⟩ := hW; go_simp⟩) hS ?_
  refine wpAnyH_take (i := 2) (v := .pointer (some ⟨dp, 0, none⟩)) rfl (by kernel_rfl) (by kernel_rfl) (by kernel_rfl) (fun _ _ _ h => h) (Or.inl ⟨by rfl, fun W hW => by obtain ⟨h0, h1, h2⟩ := hW; go_simp⟩) hS ?_
  refine wpAnyH_take (i := 3) (v := .map (some bm)) rfl (by kernel_rfl) (by kernel_rfl) (by kernel_rfl) (fun _ _ _ h => h) (Or.inl ⟨by rfl, fun W hW => by obtain ⟨h0, h1, h2⟩ := hW; go_simp⟩) hS ?_
  refine wpAnyH_take (i := 4) (v := .string a) rfl (by kernel_rfl) (by kernel_rfl) (by kernel_rfl) (fun _ _ _ h => h) (Or.inl ⟨by rfl, fun W hW => by obtain ⟨h0, h1, h2⟩ := hW; go_simp⟩) hS ?_
  refine wpAnyH_ready (rs := [5]) (by kernel_rfl) (by simp) ?_
  refine AllReadyH.cons rfl (fun K hK => ?_) AllReadyH.nil
  go_simp
  refine hK.out _ _ ⟨x0, x1, xt⟩ (fun hS => ?_)
  clear hK K hS
  refine wpAnyH_done (by kernel_rfl) ?_ _
  clear hrun' c0 c1 c2 c3 t0
  go_wp2_with fail
  refine HD.out.mono ?_
  rintro e w2 ⟨rfl, hF2, hK2⟩
  have kb2 : ∀ p, p < w1.heap.size → ¬ (p = dp ∨ p = bm) → w2.heap[p]? = w1.heap[p]? := hK2.block
  have kc2 : ∀ p u, ¬ Own dp bm M p → w1.cell? ⟨p, 0, none⟩ = some u → w2.cell? ⟨p, 0, none⟩ = some u := fun p u hp hc => (World.cell?_of_block (a := ⟨p, 0, none⟩) (kb2 p (cell_lt hc) (by rintro (e | e); exact hp (.inl e); exact hp (.inr (.inl e))))).trans hc
  have y0 := kc2 p0 _ hp0 x0
  have y2 := kc2 p2 _ hp2 x2
  have y3 := kc2 p3 _ hp3 x3
  have yt : w2.cell? ⟨dp, 0, none⟩ = some (.map (some bm)) := hF2.top.cell 0
  obtain ⟨w3, hrun3, hmp3, hturn3⟩ := map_put (n := (delF z.data.toList (delF a.data.toList M)).length) hF2.drew.mp hlen2 ⟨z.data.toList, f.bytes, f.safe, f.fb, f.v⟩ z hz rfl
  have hrun3' : (Instr.mapUpdate 120 (.map (some bm)) (.string z) (.pointer (some ⟨f.fb, 0, none⟩))).run Try.prog w2.drew = .ok () w3 := hrun3
  rw [show delF (Fl.name ⟨z.data.toList, f.bytes, f.safe, f.fb, f.v⟩) (delF z.data.toList (delF a.data.toList M)) = delF z.data.toList (delF a.data.toList M) from del_none (look_del_same _ _)] at hmp3
  have hFx : FileAt w2 ⟨z.data.toList, f.bytes, f.safe, f.fb, f.v⟩ := by
    have h1 : FileAt w2 f := HFf.out.keep (kb2 _ HFf.out.lt.1 (by rintro (e | e); exact (hap.2.1 f hf).1 e; exact (hap.2.1 f hf).2.1 e)) fun r hr => kb2 r (HFf.out.lt.2 r hr) (by
      rintro (e | e)
      · exact (hap.2.1 f hf).2.2.1 (by rw [hr, e])
      · exact (hap.2.1 f hf).2.2.2 (by rw [hr, e]))
    exact h1
  have hmem : ∀ g ∈ delF z.data.toList (delF a.data.toList M), g ∈ M ∧ g ≠ f := fun g hg => by
    have h1 := mem_del.1 (mem_del.1 hg).1
    exact ⟨h1.1, fun e => h1.2 (by rw [e, hfn])⟩
  have HF3 := Lib.hid (show FsAt w3 dp bm (insF ⟨z.data.toList, f.bytes, f.safe, f.fb, f.v⟩ (delF z.data.toList (delF a.data.toList M))) (free + dropN (look z.data.toList (delF a.data.toList M))) fuse down by
    refine hF2.drew.remap hturn3.grown hmp3 (hF2.rise.ins fun g hg => (mem_del.1 hg).2) (fun g hg => ?_) ?_ ?_
    · rcases mem_ins.1 hg with e | hg
      · rw [e]; exact hFx
      · exact hF2.files g hg
    · intro g hg g' hg' e
      rcases mem_ins.1 hg with e1 | hg1 <;> rcases mem_ins.1 hg' with e2 | hg2
      · rw [e1, e2]
      · rw [e1] at e; exact absurd (HH.out.fbs f hf g' (hmem g' hg2).1 e).symm (hmem g' hg2).2
      · rw [e2] at e; exact absurd (HH.out.fbs g (hmem g hg1).1 f hf e) (hmem g hg1).2
      · exact hF2.fbs g hg1 g' hg2 e
    · intro g hg g' hg' r h1 h2
      rcases mem_ins.1 hg with e1 | hg1 <;> rcases mem_ins.1 hg' with e2 | hg2
      · rw [e1, e2]
      · rw [e1] at h1; exact absurd (HH.out.rbs f hf g' (hmem g' hg2).1 r h1 h2).symm (hmem g' hg2).2
      · rw [e2] at h2; exact absurd (HH.out.rbs g (hmem g hg1).1 f hf r h1 h2) (hmem g hg1).2
      · exact hF2.rbs g hg1 g' hg2 r h1 h2)
  have HK3 := Lib.hid (show Kept (Own dp bm M) w w3 from (HK1.out.trans hK2 (fun j hj => .inl (own_two hj))).drew.grown hturn3.grown (fun j hj => by cases hj; exact .inl (.inr (.inl rfl))))
  have kc3 : ∀ p u, p ≠ bm → w2.cell? ⟨p, 0, none⟩ = some u → w3.cell? ⟨p, 0, none⟩ = some u := fun p u hne hc => (World.cell?_of_block (a := ⟨p, 0, none⟩) (hturn3.grown.block p (cell_lt hc) (by intro e; injection e with e; exact hne e))).trans hc
  have z0 := kc3 p0 _ (nd p0 hp0).1 y0
  have z2 := kc3 p2 _ (nd p2 hp2).1 y2
  have z3 := kc3 p3 _ (nd p3 hp3).1 y3
  have zt := kc3 dp _ hap.1 yt
  clear hrun3 hmp3 hturn3 hF2 hK2 kb2 kc2 kc3 hFx hmem x0 x1 x2 x3 xt hsz1
  go_wp2_with fail
  refine wp_region_held_drew (S := fun W => W.cell? ⟨p0, 0, none⟩ = some (.pointer (some ⟨dp, 0, none⟩)) ∧ W.cell? ⟨p2, 0, none⟩ = some (.string z) ∧ W.cell? ⟨p3, 0, none⟩ = some (.pointer (some ⟨f.fb, 0, none⟩)) ∧ W.cell? ⟨dp, 0, none⟩ = some (.map (some bm))) mixed ⟨y0, y2, y3, yt⟩ (fun hS => ?_)
  refine wpAnyH_take (i := 0) (v := .pointer (some ⟨dp, 0, none⟩)) rfl (by kernel_rfl) (by kernel_rfl) (by kernel_rfl) (fun _ _ _ h => h) (Or.inl ⟨by rfl, fun W hW => by obtain ⟨h0, h1, h2, h3⟩ := hW; go_simp⟩) hS ?_
  refine wpAnyH_take (i := 1) (v := .pointer (some ⟨dp, 0, none⟩)) rfl (by kernel_rfl) (by kernel_rfl) (by kernel_rfl) (fun _ _ _ h => h) (Or.inl ⟨by rfl, fun W hW => by obtain ⟨h0, h1, h2, h3⟩ := hW; go_simp⟩) hS ?_
  refine wpAnyH_take (i := 2) (v := .pointer (some ⟨dp, 0, none⟩)) rfl (by kernel_rfl) (by kernel_rfl) (by kernel_rfl) (fun _ _ _ h => h) (Or.inl ⟨by rfl, fun W hW => by obtain ⟨h0, h1, h2, h3⟩ := hW; go_simp⟩) hS ?_
  refine wpAnyH_take (i := 3) (v := .map (some bm)) rfl (by kernel_rfl) (by kernel_rfl) (by kernel_rfl) (fun _ _ _ h => h) (Or.inl ⟨by rfl, fun W hW => by obtain ⟨h0, h1, h2, h3⟩ := hW; go_simp⟩) hS ?_
  refine wpAnyH_take (i := 4) (v := .string z) rfl (by kernel_rfl) (by kernel_rfl) (by kernel_rfl) (fun _ _ _ h => h) (Or.inl ⟨by rfl, fun W hW => by obtain ⟨h0, h1, h2, h3⟩ := hW; go_simp⟩) hS ?_
  refine wpAnyH_take (i := 5) (v := .pointer (some ⟨f.fb, 0, none⟩)) rfl (by kernel_rfl) (by kernel_rfl) (by kernel_rfl) (fun _ _ _ h => h) (Or.inl ⟨by rfl, fun W hW => by obtain ⟨h0, h1, h2, h3⟩ := hW; go_simp⟩) hS ?_
  refine wpAnyH_ready (rs := [6]) (by kernel_rfl) (by simp) ?_
  refine AllReadyH.cons rfl (fun K hK => ?_) AllReadyH.nil
  go_simp
  refine hK.out _ _ ⟨z0, z2, z3, zt⟩ (fun hS => ?_)
  clear hK K
  refine wpAnyH_done (by kernel_rfl) ?_ _
  go_wp2
  go_end0
  exact ⟨rfl, HF3.out, HK3.out⟩
theorem own_ren {f : Fl} (hf : f ∈ M) {z a : List UInt8} {j : Nat} (h : Own dp bm (insF ⟨z, f.bytes, f.safe, f.fb, f.v⟩ (delF z (delF a M))) j) : Own dp bm M j := by
  rcases h with h | h | ⟨g, hg, h⟩
  · exact .inl h
  · exact .inr (.inl h)
  · rcases mem_ins.1 hg with rfl | hg
    · exact .inr (.inr ⟨f, hf, h⟩)
    · exact .inr (.inr ⟨g, (mem_del.1 (mem_del.1 hg).1).1, h⟩)
theorem ren_view {f : Fl} {z a : List UInt8} : (insF ⟨z, f.bytes, f.safe, f.fb, f.v⟩ (delF z (delF a M))).map vw = vins (z, f.bytes, f.safe) (vdel z (vdel a (M.map vw))) := by
  rw [map_ins, map_del', map_del']; rfl
set_option maxHeartbeats 1000000 in
set_option maxRecDepth 100000 in
theorem rename_any (h : FsAt w dp bm M free fuse down) (a z : ByteArray) (ha : a.size ≤ maxLen) (hz : z.size ≤ maxLen) (hlen : M.length < maxLen) (hfr : ∀ f ∈ M, free + f.bytes.length ≤ 9223372036854775807) (hfr0 : free ≤ 9223372036854775807) (hfu : fuse ≤ 9223372036854775807) :
    Calls Try.prog 68 #[.pointer (some ⟨dp, 0, none⟩), .string a, .string z] w (Res w dp (Own dp bm M) (renameS a.data.toList z.data.toList ⟨M.map vw, free, fuse, down⟩)) := by
  have hzl : z.data.toList.length = z.size := rfl
  have h0 := ((h.alloc (.cells #[.pointer (some ⟨dp, 0, none⟩)] 49)).alloc (.cells #[.string a] 9)).alloc (.cells #[.string z] 9)
  have k0 : Kept (Own dp bm M) w (((w.alloc (.cells #[.pointer (some ⟨dp, 0, none⟩)] 49)).alloc (.cells #[.string a] 9)).alloc (.cells #[.string z] 9)) := (((Kept.refl _ w).alloc _).alloc _).alloc _
  by_cases hm : mayC down z.size = 0
  · have HM := Lib.hid (may_any h0 z)
    rw [hm] at HM
    rcases file_cases h a ha with ⟨f, hl, hd, hf, hnm, hon, hc⟩ | ⟨cd, hc0, hon, hc⟩
    · have HR := Lib.hid (show renameS a.data.toList z.data.toList ⟨M.map vw, free, fuse, down⟩ = stepS ⟨M.map vw, free, fuse, down⟩ fun s1 => renK a.data.toList z.data.toList f.bytes f.safe s1 by
        unfold renameS; rw [if_neg (by simpa [hzl] using hm), hon]; rfl)
      have hmf : ∀ (fn : Fn) (first cap : Array Value) (w : World), (Instr.makeFunc fn first cap).run Try.prog w = .ok (.func fn first cap) w := fun _ _ _ _ => rfl
      have h1 := h0.alloc (.cells #[.pointer (some ⟨f.fb, 0, none⟩)] 135)
      have k1 := k0.alloc (.cells #[.pointer (some ⟨f.fb, 0, none⟩)] 135)
      have B0 : Blk ((((w.alloc (.cells #[.pointer (some ⟨dp, 0, none⟩)] 49)).alloc (.cells #[.string a] 9)).alloc (.cells #[.string z] 9)).alloc (.cells #[.pointer (some ⟨f.fb, 0, none⟩)] 135)) w.heap.size 49 #[.pointer (some ⟨dp, 0, none⟩)] := (((Blk.new w _ _).alloc _).alloc _).alloc _
      have B1 : Blk ((((w.alloc (.cells #[.pointer (some ⟨dp, 0, none⟩)] 49)).alloc (.cells #[.string a] 9)).alloc (.cells #[.string z] 9)).alloc (.cells #[.pointer (some ⟨f.fb, 0, none⟩)] 135)) (w.heap.size + 1) 9 #[.string a] := by
        simpa using ((Blk.new (w.alloc (.cells #[.pointer (some ⟨dp, 0, none⟩)] 49)) 9 #[.string a]).alloc (.cells #[.string z] 9)).alloc (.cells #[.pointer (some ⟨f.fb, 0, none⟩)] 135)
      have B2 : Blk ((((w.alloc (.cells #[.pointer (some ⟨dp, 0, none⟩)] 49)).alloc (.cells #[.string a] 9)).alloc (.cells #[.string z] 9)).alloc (.cells #[.pointer (some ⟨f.fb, 0, none⟩)] 135)) (w.heap.size + 1 + 1) 9 #[.string z] := by
        simpa using (Blk.new ((w.alloc (.cells #[.pointer (some ⟨dp, 0, none⟩)] 49)).alloc (.cells #[.string a] 9)) 9 #[.string z]).alloc (.cells #[.pointer (some ⟨f.fb, 0, none⟩)] 135)
      have B3 : Blk ((((w.alloc (.cells #[.pointer (some ⟨dp, 0, none⟩)] 49)).alloc (.cells #[.string a] 9)).alloc (.cells #[.string z] 9)).alloc (.cells #[.pointer (some ⟨f.fb, 0, none⟩)] 135)) (w.heap.size + 1 + 1 + 1) 135 #[.pointer (some ⟨f.fb, 0, none⟩)] := by
        simpa using Blk.new (((w.alloc (.cells #[.pointer (some ⟨dp, 0, none⟩)] 49)).alloc (.cells #[.string a] 9)).alloc (.cells #[.string z] 9)) 135 #[.pointer (some ⟨f.fb, 0, none⟩)]
      have n0 : ¬ Own dp bm M w.heap.size := fun ho => absurd (h.own_lt ho) (by omega)
      have n1 : ¬ Own dp bm M (w.heap.size + 1) := fun ho => absurd (h.own_lt ho) (by omega)
      have n2 : ¬ Own dp bm M (w.heap.size + 1 + 1) := fun ho => absurd (h.own_lt ho) (by omega)
      have n3 : ¬ Own dp bm M (w.heap.size + 1 + 1 + 1) := fun ho => absurd (h.own_lt ho) (by omega)
      have HC := Lib.hid (hc _ h0)
      have l0 := h.top.lt
      have HN := Lib.hid hnm
      have HFR := Lib.hid hfr
      clear hl hd hnm hon hc hm hfr
      by_cases hf1 : fuse = 1
      · subst hf1
        go_enter Try.func68, Try.ntmps68
        go_wp2_with fail
        refine HM.out.mono ?_
        rintro e w' ⟨rfl, rfl⟩
        go_wp2_with fail
        refine HC.out.mono ?_
        rintro e w' ⟨rfl, rfl⟩
        go_wp2_with fail
        refine (step_off h1 _).mono ?_
        rintro e w' ⟨rfl, hF, hK⟩
        go_wp2
        go_ret
        rw [HR.out]
        exact Res.off rfl ⟨_, ⟨bm, M, hF, rfl, rfl⟩, fun j hj => .inl hj, k1.trans hK (fun j hj => .inl hj)⟩
      · have HF := Lib.hid hf1
        clear hf1
        go_enter Try.func68, Try.ntmps68
        go_wp2_with fail
        refine HM.out.mono ?_
        rintro e w' ⟨rfl, rfl⟩
        go_wp2_with fail
        refine HC.out.mono ?_
        rintro e w' ⟨rfl, rfl⟩
        go_wp2_with fail
        refine (step_on h1 HF.out hfu 108 _ (fun args W => by kernel_rfl) _ (rename1_any (h1.set2 _) w.heap.size (w.heap.size + 1) (w.heap.size + 1 + 1) (w.heap.size + 1 + 1 + 1) a z ha hz hlen hf HN.out ?_ ?_ ?_ ?_ n0 n1 n2 n3 HFR.out hfr0)).mono ?_
        · exact (B0.far (p := ⟨dp, 2, none⟩) (by show w.heap.size ≠ dp; omega) _).cell 0
        · exact (B1.far (p := ⟨dp, 2, none⟩) (by show w.heap.size + 1 ≠ dp; omega) _).cell 0
        · exact (B2.far (p := ⟨dp, 2, none⟩) (by show w.heap.size + 1 + 1 ≠ dp; omega) _).cell 0
        · exact (B3.far (p := ⟨dp, 2, none⟩) (by show w.heap.size + 1 + 1 + 1 ≠ dp; omega) _).cell 0
        rintro e w' ⟨rfl, hF, hK⟩
        go_wp2
        go_ret
        rw [HR.out]
        refine Res.step HF.out ⟨_, ⟨bm, insF ⟨z.data.toList, f.bytes, f.safe, f.fb, f.v⟩ (delF z.data.toList (delF a.data.toList M)), ?_, ren_view, rfl⟩, fun j hj => .inl (own_ren hf hj), (k1.set_ (p := ⟨dp, 2, none⟩) (.inl (.inl rfl)) _).trans hK (fun j hj => .inl hj)⟩
        show FsAt w' dp bm _ (free + (match vlook z.data.toList (vdel a.data.toList (M.map vw)) with | some t => t.2.1.length | none => 0)) (fuse - 1) down
        rw [← map_del', dropN_view]; exact hF
    · have HR := Lib.hid (show renameS a.data.toList z.data.toList ⟨M.map vw, free, fuse, down⟩ = (cd, ⟨M.map vw, free, fuse, down⟩) by
        unfold renameS; rw [if_neg (by simpa [hzl] using hm), hon])
      have HC := Lib.hid (hc _ h0)
      have hcb : (cd != 0) = true := by simpa using hc0
      clear hon hc hc0 hm
      go_enter Try.func68, Try.ntmps68
      go_wp2_with fail
      refine HM.out.mono ?_
      rintro e w' ⟨rfl, rfl⟩
      go_wp2_with fail
      refine HC.out.mono ?_
      rintro e w' ⟨rfl, rfl⟩
      go_wp2
      go_ret
      rw [HR.out]
      exact ⟨rfl, _, ⟨bm, M, h0.alloc _, rfl, rfl⟩, fun j hj => .inl hj, k0.alloc _⟩
  · have HR := Lib.hid (show renameS a.data.toList z.data.toList ⟨M.map vw, free, fuse, down⟩ = (mayC down z.size, ⟨M.map vw, free, fuse, down⟩) by
      unfold renameS; rw [if_pos (by simpa [hzl] using hm)]; rfl)
    have hmb : (mayC down z.size != 0) = true := by simpa using hm
    clear hm
    go_enter Try.func68, Try.ntmps68
    go_wp2_with fail
    refine (may_any h0 z).mono ?_
    rintro e w' ⟨rfl, rfl⟩
    go_wp2
    go_ret
    rw [HR.out]
    exact ⟨rfl, _, ⟨bm, M, h0, rfl, rfl⟩, fun j hj => .inl hj, k0⟩
end
end Go.Proofs.Yteokiaeojgjpdaa
