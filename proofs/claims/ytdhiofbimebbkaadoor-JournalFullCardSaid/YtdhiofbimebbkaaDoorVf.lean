/- A file of the disk is written: Sync. -/
import Derived.Test.YtdhiofbimebbkaaDoorVe
import Derived.Maps.AppendAt
namespace Go.Proofs.YtdhiofbimebbkaaDoor
open Go.RowKit Go.Maps

section
variable {w w' : World} {dp bm free fuse : Nat} {M : List Fl} {down : Bool}
/-- One file of the disk is another one, of its name and in its block. -/
theorem FsAt.turn (h : FsAt w dp bm M free fuse down) {f x : Fl} (hf : f ∈ M) (hn : x.name = f.name) (hb : x.fb = f.fb) (hx : FileAt w' x)
    (hk : ∀ j, Own dp bm M j → j ≠ f.fb → f.v.ownBlock ≠ some j → w'.heap[j]? = w.heap[j]?) (hr : ∀ r, x.v.ownBlock = some r → f.v.ownBlock = some r ∨ w.heap.size ≤ r) : FsAt w' dp bm (updF x M) free fuse down where
  top := (hk dp (.inl rfl) (h.ap.2.1 f hf).1.symm (h.ap.2.1 f hf).2.2.1).trans h.top
  mp := by
    obtain ⟨es, clock, h1, F, hs, hD⟩ := h.mp
    refine ⟨es, clock, (hk bm (.inr (.inl rfl)) (h.ap.2.1 f hf).2.1.symm (h.ap.2.1 f hf).2.2.2).trans h1, F, by rw [length_upd]; exact hs, ?_⟩
    rw [dOf_upd h.rise hf hn hb]; exact hD
  rise := h.rise.upd x
  files := fun g hg => by
    rcases mem_upd hg with rfl | ⟨hg, hne⟩
    · exact hx
    · have hgf : g ≠ f := fun e => hne (by rw [e, hn])
      refine (h.files g hg).keep (hk _ (.inr (.inr ⟨g, hg, .inl rfl⟩)) (fun e => hgf (h.fbs g hg f hf e)) (h.ap.2.2 g hg f hf)) fun r hr => hk r (.inr (.inr ⟨g, hg, .inr hr⟩)) (fun e => h.ap.2.2 f hf g hg (by rw [hr, e])) (fun e => hgf (h.rbs g hg f hf r hr e))
  fbs := fun g hg g' hg' e => by
    rcases mem_upd hg with rfl | ⟨hm, hne⟩ <;> rcases mem_upd hg' with rfl | ⟨hm', hne'⟩
    · rfl
    · exact absurd (by rw [hn, h.fbs f hf g' hm' (hb.symm.trans e)]) hne'
    · exact absurd (by rw [hn, h.fbs f hf g hm (hb.symm.trans e.symm)]) hne
    · exact h.fbs g hm g' hm' e
  rbs := fun g hg g' hg' r h1 h2 => by
    rcases mem_upd hg with rfl | ⟨hm, hne⟩ <;> rcases mem_upd hg' with rfl | ⟨hm', hne'⟩
    · rfl
    · rcases hr r h1 with h3 | h3
      · exact absurd (by rw [hn, h.rbs f hf g' hm' r h3 h2]) hne'
      · have := (h.files g' hm').lt.2 r h2; omega
    · rcases hr r h2 with h3 | h3
      · exact absurd (by rw [hn, h.rbs f hf g hm r h3 h1]) hne
      · have := (h.files g hm).lt.2 r h1; omega
    · exact h.rbs g hm g' hm' r h1 h2
theorem own_upd {f x : Fl} {W : World} {j : Nat} (hf : f ∈ M) (hb : x.fb = f.fb) (hr : ∀ r, x.v.ownBlock = some r → f.v.ownBlock = some r ∨ W.heap.size ≤ r) (h : Own dp bm (updF x M) j) : Own dp bm M j ∨ W.heap.size ≤ j := by
  rcases h with h | h | ⟨g, hg, h⟩
  · exact .inl (.inl h)
  · exact .inl (.inr (.inl h))
  · rcases mem_upd hg with rfl | ⟨hg, _⟩
    · rcases h with h | h
      · exact .inl (.inr (.inr ⟨f, hf, .inl (by rw [← hb]; exact h)⟩))
      · rcases hr j h with h | h
        · exact .inl (.inr (.inr ⟨f, hf, .inr h⟩))
        · exact .inr h
    · exact .inl (.inr (.inr ⟨g, hg, h⟩))
def syncF (f : Fl) : Fl := { f with safe := f.bytes.length }
set_option maxHeartbeats 1000000 in
set_option maxRecDepth 100000 in
theorem sync1_any (h : FsAt w dp bm M free fuse down) (p0 : Nat) {f : Fl} (hf : f ∈ M) (c0 : w.cell? ⟨p0, 0, none⟩ = some (.pointer (some ⟨f.fb, 0, none⟩))) (hp : ¬ Own dp bm M p0) :
    Calls Tryd.prog 44 #[.pointer (some ⟨p0, 0, none⟩)] w fun e w' => e = .returned (.tuple #[]) ∧ FsAt w' dp bm (updF (syncF f) M) free fuse down ∧ Kept (Own dp bm M) w w' := by
  have mixed : Tryd.prog.follows .mixedOrders = true := by kernel_rfl
  obtain ⟨A, c, hv, hnc, hcm⟩ := row_shape (h.files f hf).2.1
  have hB := (h.files f hf).1
  rw [hv] at hB
  obtain ⟨b0, b1, g0, g1⟩ := blk2 hB
  have hpf : p0 ≠ f.fb := fun e => hp (.inr (.inr ⟨f, hf, .inl e.symm⟩))
  have HF := Lib.hid (show FsAt ((w.setCell ⟨f.fb, 1, none⟩ (.int .i64 (f.bytes.length : Nat))).drew) dp bm (updF (syncF f) M) free fuse down by
    refine FsAt.drew (h.turn hf rfl rfl ⟨?_, ?_, Nat.le_refl _⟩ (fun j _ hj _ => Below.heap_setCell _ _ _ _ hj) fun r hr => .inl hr)
    · exact Blk.set_ (h.files f hf).1 1 _
    · exact (h.files f hf).2.1.kept (gb_set (g := f.fb) (gb_refl w _) (p := ⟨f.fb, 1, none⟩) (.inl rfl) _) (.inr (h.ap.2.2 f hf f hf)))
  have HK := Lib.hid (show Kept (Own dp bm M) w ((w.setCell ⟨f.fb, 1, none⟩ (.int .i64 (f.bytes.length : Nat))).drew) from ((Kept.refl _ w).set_ (p := ⟨f.fb, 1, none⟩) (.inl (.inr (.inr ⟨f, hf, .inl rfl⟩))) _).drew)
  go_enter Tryd.func44, Tryd.ntmps44
  go_wp2_with fail
  refine wp_region_held_drew (S := fun W => W.cell? ⟨p0, 0, none⟩ = some (.pointer (some ⟨f.fb, 0, none⟩)) ∧ W.cell? ⟨f.fb, 0, none⟩ = some (.slice A f.bytes.length c)) mixed ⟨c0, b0⟩ (fun hS => ?_)
  refine wpAnyH_take (i := 0) (v := .pointer (some ⟨f.fb, 0, none⟩)) rfl (by kernel_rfl) (by kernel_rfl) (by kernel_rfl) (fun _ _ _ h => h) (Or.inl ⟨by rfl, fun W hW => by obtain ⟨h0, h1⟩ := hW; go_simp⟩) hS ?_
  refine wpAnyH_take (i := 1) (v := .pointer (some ⟨f.fb, 0, none⟩)) rfl (by kernel_rfl) (by kernel_rfl) (by kernel_rfl) (fun _ _ _ h => h) (Or.inl ⟨by rfl, fun W hW => by obtain ⟨h0, h1⟩ := hW; go_simp⟩) hS ?_
  refine wpAnyH_take (i := 2) (v := .pointer (some ⟨f.fb, 0, none⟩)) rfl (by kernel_rfl) (by kernel_rfl) (by kernel_rfl) (fun _ _ _ h => h) (Or.inl ⟨by rfl, fun W hW => by obtain ⟨h0, h1⟩ := hW; go_simp⟩) hS ?_
  refine wpAnyH_take (i := 3) (v := .pointer (some ⟨f.fb, 0, none⟩)) rfl (by kernel_rfl) (by kernel_rfl) (by kernel_rfl) (fun _ _ _ h => h) (Or.inl ⟨by rfl, fun W hW => by obtain ⟨h0, h1⟩ := hW; go_simp⟩) hS ?_
  refine wpAnyH_take (i := 4) (v := .slice A f.bytes.length c) rfl (by kernel_rfl) (by kernel_rfl) (by kernel_rfl) (fun _ _ _ h => h) (Or.inl ⟨by rfl, fun W hW => by obtain ⟨h0, h1⟩ := hW; go_simp⟩) hS ?_
  refine wpAnyH_take (i := 5) (v := .int .i64 (f.bytes.length : Nat)) rfl (by kernel_rfl) (by kernel_rfl) (by kernel_rfl) (fun _ _ _ h => h) (Or.inl ⟨by rfl, fun W hW => by obtain ⟨h0, h1⟩ := hW; go_simp⟩) hS ?_
  refine wpAnyH_take (i := 6) (v := .pointer (some ⟨f.fb, 0, none⟩)) rfl (by kernel_rfl) (by kernel_rfl) (by kernel_rfl) (fun _ _ _ h => h) (Or.inl ⟨by rfl, fun W hW => by obtain ⟨h0, h1⟩ := hW; go_simp⟩) hS ?_
  refine wpAnyH_take (i := 7) (v := .pointer (some ⟨f.fb, 1, none⟩)) rfl (by kernel_rfl) (by kernel_rfl) (by kernel_rfl) (fun _ _ _ h => h) (Or.inl ⟨by rfl, fun W hW => by obtain ⟨h0, h1⟩ := hW; go_simp⟩) hS ?_
  refine wpAnyH_ready (rs := [8]) (by kernel_rfl) (by simp) ?_
  refine AllReadyH.cons rfl (fun K hK => ?_) AllReadyH.nil
  go_simp
  refine hK.out _ _ ⟨?_, ?_⟩ (fun hS => ?_)
  · exact (World.cell?_of_block (a := ⟨p0, 0, none⟩) (Below.heap_setCell w.drew ⟨f.fb, 1, none⟩ _ p0 hpf)).trans c0
  · exact (Blk.set_ hB 1 _).cell 0
  clear hK K
  refine wpAnyH_done (by kernel_rfl) ?_ _
  go_wp2
  go_end0
  exact ⟨rfl, HF.out, HK.out⟩
/-- Why there is no file of a name: 0, if there is one. -/
def errS (nm : List UInt8) (s : Sta) : Int := if s.down then 70 else if (vlook nm s.V).isSome then 0 else 4
def onFile (nm : List UInt8) (s : Sta) (k : List UInt8 × List UInt8 × Nat → Int × Sta) : Int × Sta :=
  if s.down then (70, s) else match vlook nm s.V with
    | none => (4, s)
    | some t => k t
def syncS (nm : List UInt8) (s : Sta) : Int × Sta := onFile nm s fun t => stepS s fun s => { s with V := vset (t.1, t.2.1, t.2.1.length) s.V }
/-- file answers a file, or an error. -/
theorem file_cases (h : FsAt w dp bm M free fuse down) (s : ByteArray) (hs : s.size ≤ maxLen) :
    (∃ f, look s.data.toList M = some f ∧ down = false ∧ f ∈ M ∧ f.name = s.data.toList ∧ (∀ k, onFile s.data.toList ⟨M.map vw, free, fuse, down⟩ k = k (vw f)) ∧
      ∀ W, FsAt W dp bm M free fuse down → Calls Tryd.prog 36 #[.pointer (some ⟨dp, 0, none⟩), .string s] W fun e w' => e = .returned (.tuple #[.pointer (some ⟨f.fb, 0, none⟩), .int .i64 0]) ∧ W = w') ∨
    (∃ c : Int, c ≠ 0 ∧ (∀ k, onFile s.data.toList ⟨M.map vw, free, fuse, down⟩ k = (c, ⟨M.map vw, free, fuse, down⟩)) ∧
      ∀ W, FsAt W dp bm M free fuse down → Calls Tryd.prog 36 #[.pointer (some ⟨dp, 0, none⟩), .string s] W fun e w' => e = .returned (.tuple #[.pointer none, .int .i64 c]) ∧ W = w') := by
  cases down with
  | true =>
    refine .inr ⟨70, by decide, fun k => rfl, fun W hW => (file_any hW s hs).mono fun e w' he => ?_⟩
    rw [he.1]
    refine ⟨?_, he.2⟩
    cases look s.data.toList M <;> rfl
  | false =>
    cases hl : look s.data.toList M with
    | none =>
      refine .inr ⟨4, by decide, fun k => ?_, fun W hW => (file_any hW s hs).mono fun e w' he => ?_⟩
      · simp only [onFile, map_look, hl]; rfl
      · rw [he.1, hl]; exact ⟨rfl, he.2⟩
    | some f =>
      refine .inl ⟨f, rfl, rfl, (look_mem hl).1, (look_mem hl).2, fun k => ?_, fun W hW => (file_any hW s hs).mono fun e w' he => ?_⟩
      · simp only [onFile, map_look, hl]; rfl
      · rw [he.1, hl]; exact ⟨rfl, he.2⟩
theorem vset_sync {f : Fl} : (updF (syncF f) M).map vw = vset (f.name, f.bytes, f.bytes.length) (M.map vw) := map_upd _ _
set_option maxHeartbeats 1000000 in
set_option maxRecDepth 100000 in
theorem sync_any (h : FsAt w dp bm M free fuse down) (s : ByteArray) (hs : s.size ≤ maxLen) (hfu : fuse ≤ 9223372036854775807) :
    Calls Tryd.prog 24 #[.pointer (some ⟨dp, 0, none⟩), .string s] w (Res w dp (Own dp bm M) (syncS s.data.toList ⟨M.map vw, free, fuse, down⟩)) := by
  rcases file_cases h s hs with ⟨f, hl, hd, hf, hnm, hon, hc⟩ | ⟨c, hc0, hon, hc⟩
  · have HR := Lib.hid (show syncS s.data.toList ⟨M.map vw, free, fuse, down⟩ = stepS ⟨M.map vw, free, fuse, down⟩ fun s1 => { s1 with V := vset (f.name, f.bytes, f.bytes.length) s1.V } by
      unfold syncS; rw [hon]; rfl)
    have hmf : ∀ (fn : Fn) (first cap : Array Value) (w : World), (Instr.makeFunc fn first cap).run Tryd.prog w = .ok (.func fn first cap) w := fun _ _ _ _ => rfl
    have h0 := h.alloc (.cells #[.pointer (some ⟨f.fb, 0, none⟩)] 62)
    have k0 : Kept (Own dp bm M) w (w.alloc (.cells #[.pointer (some ⟨f.fb, 0, none⟩)] 62)) := (Kept.refl _ w).alloc _
    have B0 : Blk (w.alloc (.cells #[.pointer (some ⟨f.fb, 0, none⟩)] 62)) w.heap.size 62 #[.pointer (some ⟨f.fb, 0, none⟩)] := Blk.new w _ _
    have HC := Lib.hid (hc w h)
    have hnp : ¬ Own dp bm M w.heap.size := fun ho => absurd (h.own_lt ho) (Nat.lt_irrefl _)
    have l0 := h.top.lt
    clear hl hd hnm hon hc
    by_cases hf1 : fuse = 1
    · subst hf1
      go_enter Tryd.func24, Tryd.ntmps24
      go_wp2_with fail
      refine HC.out.mono ?_
      rintro e w' ⟨rfl, rfl⟩
      go_wp2_with fail
      refine (step_off h0 _).mono ?_
      rintro e w' ⟨rfl, hF, hK⟩
      go_wp2
      go_ret
      rw [HR.out]
      exact Res.off rfl ⟨_, ⟨bm, M, hF, rfl, rfl⟩, fun j hj => .inl hj, k0.trans hK (fun j hj => .inl hj)⟩
    · have HF := Lib.hid hf1
      clear hf1
      go_enter Tryd.func24, Tryd.ntmps24
      go_wp2_with fail
      refine HC.out.mono ?_
      rintro e w' ⟨rfl, rfl⟩
      go_wp2_with fail
      refine (step_on h0 HF.out hfu 44 _ (fun args W => by kernel_rfl) _ (sync1_any (h0.set2 _) w.heap.size hf ?_ hnp)).mono ?_
      · exact (B0.far (p := ⟨dp, 2, none⟩) (by show w.heap.size ≠ dp; omega) _).cell 0
      rintro e w' ⟨rfl, hF, hK⟩
      go_wp2
      go_ret
      rw [HR.out]
      exact Res.step HF.out ⟨_, ⟨bm, _, hF, vset_sync, rfl⟩, fun j hj => own_upd (x := syncF f) hf rfl (fun r hr => .inl hr) hj, (k0.set_ (p := ⟨dp, 2, none⟩) (.inl (.inl rfl)) _).trans hK (fun j hj => .inl hj)⟩
  · have HR := Lib.hid (show syncS s.data.toList ⟨M.map vw, free, fuse, down⟩ = (c, ⟨M.map vw, free, fuse, down⟩) from hon _)
    have HC := Lib.hid (hc w h)
    have hcb : (c != 0) = true := by simpa using hc0
    clear hon hc hc0
    go_enter Tryd.func24, Tryd.ntmps24
    go_wp2_with fail
    refine HC.out.mono ?_
    rintro e w' ⟨rfl, rfl⟩
    go_wp2
    go_ret
    rw [HR.out]
    exact ⟨rfl, _, ⟨bm, M, h.alloc _, rfl, rfl⟩, fun j hj => .inl hj, (Kept.refl _ w).alloc _⟩
end
end Go.Proofs.YtdhiofbimebbkaaDoor
