/- Append. -/
import Derived.Test.YtdhiofbimebbkaaDoorVf
namespace Go.Proofs.YtdhiofbimebbkaaDoor
open Go.RowKit Go.Maps

section
variable {w : World} {dp bm free fuse : Nat} {M : List Fl} {down : Bool}
set_option maxHeartbeats 2000000 in
set_option maxRecDepth 100000 in
theorem append1_any (h : FsAt w dp bm M free fuse down) (p0 p1 p2 : Nat) {f : Fl} (hf : f ∈ M) {A : Option Addr} {m c : Nat} {bs : List UInt8} (c0 : w.cell? ⟨p0, 0, none⟩ = some (.pointer (some ⟨f.fb, 0, none⟩))) (c1 : w.cell? ⟨p1, 0, none⟩ = some (.slice A m c)) (c2 : w.cell? ⟨p2, 0, none⟩ = some (.pointer (some ⟨dp, 0, none⟩)))
    (hp0 : ¬ Own dp bm M p0) (hp1 : ¬ Own dp bm M p1) (hp2 : ¬ Own dp bm M p2) (hs : BytesAt w A m bs) (hm : m ≤ free) (hfr : free ≤ 9223372036854775807) (hl : f.bytes.length + m ≤ 1000000000) :
    Calls Tryd.prog 37 #[.pointer (some ⟨p0, 0, none⟩), .pointer (some ⟨p1, 0, none⟩), .pointer (some ⟨p2, 0, none⟩)] w fun e w' => e = .returned (.tuple #[]) ∧ ∃ x : Fl, vw x = (f.name, f.bytes ++ bs, f.safe) ∧ FsAt w' dp bm (updF x M) (free - m) fuse down ∧
      (∀ j, Own dp bm (updF x M) j → Own dp bm M j ∨ w.heap.size ≤ j) ∧ Kept (Own dp bm M) w w' := by
  have mixed : Tryd.prog.follows .mixedOrders = true := by kernel_rfl
  have hFA := h.files f hf
  obtain ⟨Av, cv, hv, hnc, hcm⟩ := row_shape hFA.2.1
  have hB := hFA.1
  have hown := hFA.2.1
  obtain ⟨A', c', w1, hrun, hown1, hg1, hat⟩ := append_bytes (w := w.drew) (c := c) 30 hown hs hl
  rw [hv] at hrun hB
  have b0 : w.cell? ⟨f.fb, 0, none⟩ = some (.slice Av f.bytes.length cv) := hB.cell 0
  have nb : ∀ p, ¬ Own dp bm M p → p ≠ f.fb ∧ some p ≠ f.v.ownBlock ∧ p ≠ dp := fun p hp => ⟨fun e => hp (.inr (.inr ⟨f, hf, .inl e.symm⟩)), fun e => hp (.inr (.inr ⟨f, hf, .inr e.symm⟩)), fun e => hp (.inl e)⟩
  have kp : ∀ p u, ¬ Own dp bm M p → w.cell? ⟨p, 0, none⟩ = some u → w1.cell? ⟨p, 0, none⟩ = some u := fun p u hp hc => (World.cell?_of_block (a := ⟨p, 0, none⟩) (hg1.block p (cell_lt hc) (nb p hp).2.1)).trans hc
  have kp2 : ∀ p u x, ¬ Own dp bm M p → w.cell? ⟨p, 0, none⟩ = some u → (w1.setCell ⟨f.fb, 0, none⟩ x).cell? ⟨p, 0, none⟩ = some u := fun p u x hp hc => (World.cell?_of_block (a := ⟨p, 0, none⟩) (Below.heap_setCell w1 ⟨f.fb, 0, none⟩ x p (nb p hp).1)).trans (kp p u hp hc)
  have hfbr : f.v.ownBlock ≠ some f.fb := h.ap.2.2 f hf f hf
  have B1 : Blk w1 f.fb 64 #[.slice Av f.bytes.length cv, .int .i64 (f.safe : Nat)] := Blk.grown (w := w.drew) hB hg1 (fun e => hfbr e.symm)
  have g1 : w1.frozen? ⟨f.fb, 0, none⟩ = false := B1.frozen 0
  have g2 : w1.cell? ⟨f.fb, 0, none⟩ = some (.slice Av f.bytes.length cv) := B1.cell 0
  obtain ⟨w2, hw2⟩ : ∃ w2, w2 = w1.setCell ⟨f.fb, 0, none⟩ (.slice A' (f.bytes.length + m) c') := ⟨_, rfl⟩
  have hxb : ∀ r, (Value.slice A' (f.bytes.length + m) c').ownBlock = some r → f.v.ownBlock = some r ∨ w.heap.size ≤ r := fun r hr => by
    rcases hat with h1 | h1
    · rw [h1] at hr; exact .inl hr
    · rw [h1] at hr; injection hr with hr; exact .inr (by rw [← hr]; exact Nat.le_refl _)
  have hF2 : FsAt w2 dp bm (updF ⟨f.name, f.bytes ++ bs, f.safe, f.fb, .slice A' (f.bytes.length + m) c'⟩ M) free fuse down := by
    rw [hw2]
    refine h.turn hf rfl rfl ⟨?_, ?_, ?_⟩ (fun j hj h1 h2 => ?_) hxb
    · exact Blk.set_ B1 0 _
    · refine hown1.kept (gb_set (g := f.fb) (gb_refl w1 _) (p := ⟨f.fb, 0, none⟩) (.inl rfl) _) (.inr fun e => ?_)
      rcases hxb f.fb e with h1 | h1
      · exact hfbr h1
      · have := hB.lt; omega
    · show f.safe ≤ (f.bytes ++ bs).length
      rw [List.length_append]; exact Nat.le_trans hFA.2.2 (Nat.le_add_right _ _)
    · exact (Below.heap_setCell _ _ _ _ h1).trans (hg1.block j (h.own_lt hj) (fun e => h2 e.symm))
  have hK2 : Kept (Own dp bm M) w w2 := by
    rw [hw2]
    refine (Kept.grown (Kept.drew (Kept.refl _ w)) hg1 (fun j hj => .inl (.inr (.inr ⟨f, hf, .inr hj⟩)))).set_ (p := ⟨f.fb, 0, none⟩) (.inl (.inr (.inr ⟨f, hf, .inl rfl⟩))) _
  have HO := Lib.hid (fun j (hj : Own dp bm (updF ⟨f.name, f.bytes ++ bs, f.safe, f.fb, .slice A' (f.bytes.length + m) c'⟩ M) j) => own_upd (W := w) (x := ⟨f.name, f.bytes ++ bs, f.safe, f.fb, .slice A' (f.bytes.length + m) c'⟩) hf rfl hxb hj)
  have q1 : w2.cell? ⟨p1, 0, none⟩ = some (.slice A m c) := by rw [hw2]; exact kp2 p1 _ _ hp1 c1
  have q2 : w2.cell? ⟨p2, 0, none⟩ = some (.pointer (some ⟨dp, 0, none⟩)) := by rw [hw2]; exact kp2 p2 _ _ hp2 c2
  have z1 := kp p1 _ hp1 c1
  have z0 := kp p0 _ hp0 c0
  have y0 := kp2 p0 _ (.slice A' (f.bytes.length + m) c') hp0 c0
  have y1 := kp2 p1 _ (.slice A' (f.bytes.length + m) c') hp1 c1
  obtain ⟨t0, t1, t2, t3, e1, e2, e3⟩ := blk4 hF2.top
  have nd1 := (nb p1 hp1).2.2
  have nd2 := (nb p2 hp2).2.2
  have HF := Lib.hid (hF2.drew.set1 (free - m))
  have HK := Lib.hid ((hK2.drew).set_ (p := ⟨dp, 1, none⟩) (.inl (.inl rfl)) (.int .i64 ((free - m : Nat) : Int)))
  have hsub : ((free - m : Nat) : Int) = (free : Int) - (m : Int) := by omega
  rw [hsub] at HF HK
  have hwr : IntKind.i64.wrap ((free : Int) - (m : Int)) = (free : Int) - (m : Int) := IntWalk.i64_in _ (by omega)
  have HRUN := Lib.hid hrun
  clear hrun hF2 hK2 kp kp2 nb hsub hown hown1 hFA hg1 hat hxb B1 hfbr hB
  go_enter Tryd.func37, Tryd.ntmps37
  go_wp2_with fail
  refine wp_region_held_drew (S := fun W => W.cell? ⟨p0, 0, none⟩ = some (.pointer (some ⟨f.fb, 0, none⟩)) ∧ W.cell? ⟨p1, 0, none⟩ = some (.slice A m c)) mixed ⟨c0, c1⟩ (fun hS => ?_)
  refine wpAnyH_take (i := 0) (v := .pointer (some ⟨f.fb, 0, none⟩)) rfl (by kernel_rfl) (by kernel_rfl) (by kernel_rfl) (fun _ _ _ h => h) (Or.inl ⟨by rfl, fun W hW => by obtain ⟨h0, h1⟩ := hW; go_simp⟩) hS ?_
  refine wpAnyH_take (i := 1) (v := .pointer (some ⟨f.fb, 0, none⟩)) rfl (by kernel_rfl) (by kernel_rfl) (by kernel_rfl) (fun _ _ _ h => h) (Or.inl ⟨by rfl, fun W hW => by obtain ⟨h0, h1⟩ := hW; go_simp⟩) hS ?_
  refine wpAnyH_take (i := 2) (v := .pointer (some ⟨f.fb, 0, none⟩)) rfl (by kernel_rfl) (by kernel_rfl) (by kernel_rfl) (fun _ _ _ h => h) (Or.inl ⟨by rfl, fun W hW => by obtain ⟨h0, h1⟩ := hW; go_simp⟩) hS ?_
  refine wpAnyH_take (i := 3) (v := .pointer (some ⟨f.fb, 0, none⟩)) rfl (by kernel_rfl) (by kernel_rfl) (by kernel_rfl) (fun _ _ _ h => h) (Or.inl ⟨by rfl, fun W hW => by obtain ⟨h0, h1⟩ := hW; go_simp⟩) hS ?_
  refine wpAnyH_take (i := 5) (v := .slice A m c) rfl (by kernel_rfl) (by kernel_rfl) (by kernel_rfl) (fun _ _ _ h => h) (Or.inl ⟨by rfl, fun W hW => by obtain ⟨h0, h1⟩ := hW; go_simp⟩) hS ?_
  refine wpAnyH_ready (rs := [4]) (by kernel_rfl) (by simp) ?_
  refine AllReadyH.cons rfl (fun K hK => ?_) AllReadyH.nil
  go_simp
  refine hK.out _ _ hS (fun hS => ?_)
  clear hK K
  refine wpAnyH_ready (rs := [6]) (by kernel_rfl) (by simp) ?_
  refine AllReadyH.cons rfl (fun K hK => ?_) AllReadyH.nil
  refine step_append_run rfl (.tmp 7) (.tmp 8) 30 rfl _ _ _ rfl rfl HRUN.out ?_
  refine hK.out _ _ ⟨z0, z1⟩ (fun hS => ?_)
  clear hK K
  refine wpAnyH_take (i := 7) (v := .pointer (some ⟨f.fb, 0, none⟩)) rfl (by kernel_rfl) (by kernel_rfl) (by kernel_rfl) (fun _ _ _ h => h) (Or.inl ⟨by rfl, fun W hW => by obtain ⟨h0, h1⟩ := hW; go_simp⟩) hS ?_
  refine wpAnyH_take (i := 8) (v := .pointer (some ⟨f.fb, 0, none⟩)) rfl (by kernel_rfl) (by kernel_rfl) (by kernel_rfl) (fun _ _ _ h => h) (Or.inl ⟨by rfl, fun W hW => by obtain ⟨h0, h1⟩ := hW; go_simp⟩) hS ?_
  refine wpAnyH_ready (rs := [9]) (by kernel_rfl) (by simp) ?_
  refine AllReadyH.cons rfl (fun K hK => ?_) AllReadyH.nil
  go_simp
  refine hK.out _ _ ⟨y0, y1⟩ (fun hS => ?_)
  clear hK K
  refine wpAnyH_done (by kernel_rfl) ?_ _
  rw [← hw2]
  clear hw2 HRUN z0 z1 y0 y1 hS c0 c1 c2 b0 g1 g2
  go_wp2_with fail
  refine wp_region_held_drew (S := fun W => W.cell? ⟨p1, 0, none⟩ = some (.slice A m c) ∧ W.cell? ⟨p2, 0, none⟩ = some (.pointer (some ⟨dp, 0, none⟩))) mixed ⟨q1, q2⟩ (fun hS => ?_)
  refine wpAnyH_take (i := 0) (v := .pointer (some ⟨dp, 0, none⟩)) rfl (by kernel_rfl) (by kernel_rfl) (by kernel_rfl) (fun _ _ _ h => h) (Or.inl ⟨by rfl, fun W hW => by obtain ⟨h0, h1⟩ := hW; go_simp⟩) hS ?_
  refine wpAnyH_take (i := 1) (v := .pointer (some ⟨dp, 0, none⟩)) rfl (by kernel_rfl) (by kernel_rfl) (by kernel_rfl) (fun _ _ _ h => h) (Or.inl ⟨by rfl, fun W hW => by obtain ⟨h0, h1⟩ := hW; go_simp⟩) hS ?_
  refine wpAnyH_take (i := 2) (v := .pointer (some ⟨dp, 1, none⟩)) rfl (by kernel_rfl) (by kernel_rfl) (by kernel_rfl) (fun _ _ _ h => h) (Or.inl ⟨by rfl, fun W hW => by obtain ⟨h0, h1⟩ := hW; go_simp⟩) hS ?_
  refine wpAnyH_take (i := 4) (v := .slice A m c) rfl (by kernel_rfl) (by kernel_rfl) (by kernel_rfl) (fun _ _ _ h => h) (Or.inl ⟨by rfl, fun W hW => by obtain ⟨h0, h1⟩ := hW; go_simp⟩) hS ?_
  refine wpAnyH_take (i := 5) (v := .int .i64 (m : Nat)) rfl (by kernel_rfl) (by kernel_rfl) (by kernel_rfl) (fun _ _ _ h => h) (Or.inl ⟨by rfl, fun W hW => by obtain ⟨h0, h1⟩ := hW; go_simp⟩) hS ?_
  refine wpAnyH_ready (rs := [3]) (by kernel_rfl) (by simp) ?_
  refine AllReadyH.cons rfl (fun K hK => ?_) AllReadyH.nil
  go_simp
  refine hK.out _ _ hS (fun hS => ?_)
  clear hK K
  refine wpAnyH_ready (rs := [6]) (by kernel_rfl) (by simp) ?_
  refine AllReadyH.cons rfl (fun K hK => ?_) AllReadyH.nil
  go_simp
  refine hK.out _ _ hS (fun hS => ?_)
  clear hK K
  refine wpAnyH_take (i := 7) (v := .pointer (some ⟨dp, 0, none⟩)) rfl (by kernel_rfl) (by kernel_rfl) (by kernel_rfl) (fun _ _ _ h => h) (Or.inl ⟨by rfl, fun W hW => by obtain ⟨h0, h1⟩ := hW; go_simp⟩) hS ?_
  refine wpAnyH_take (i := 8) (v := .pointer (some ⟨dp, 1, none⟩)) rfl (by kernel_rfl) (by kernel_rfl) (by kernel_rfl) (fun _ _ _ h => h) (Or.inl ⟨by rfl, fun W hW => by obtain ⟨h0, h1⟩ := hW; go_simp⟩) hS ?_
  refine wpAnyH_ready (rs := [9]) (by kernel_rfl) (by simp) ?_
  refine AllReadyH.cons rfl (fun K hK => ?_) AllReadyH.nil
  go_simp
  refine hK.out _ _ ⟨(World.cell?_of_block (a := ⟨p1, 0, none⟩) (Below.heap_setCell w2.drew ⟨dp, 1, none⟩ _ p1 nd1)).trans q1, (World.cell?_of_block (a := ⟨p2, 0, none⟩) (Below.heap_setCell w2.drew ⟨dp, 1, none⟩ _ p2 nd2)).trans q2⟩ (fun hS => ?_)
  clear hK K
  refine wpAnyH_done (by kernel_rfl) ?_ _
  go_wp2
  go_end0
  exact ⟨rfl, _, rfl, HF.out, HO.out, HK.out⟩
end
end Go.Proofs.YtdhiofbimebbkaaDoor
