/- A step of the disk that is done; Create. -/
import Derived.Test.YtdhiofbimebbkaaDoorVc
namespace Go.Proofs.YtdhiofbimebbkaaDoor
open Go.RowKit Go.Maps

section
variable {w : World} {dp bm free fuse : Nat} {M : List Fl} {down : Bool}
theorem step_on (h : FsAt w dp bm M free fuse down) (hf : fuse ≠ 1) (hl : fuse ≤ 9223372036854775807) (fn : Nat) (bs : Array Value) (hE : ∀ args W, (callFunc fn args).run Tryd.prog W = .ok (.enter fn args) W) (Q : World → Prop)
    (hc : Calls Tryd.prog fn bs (w.setCell ⟨dp, 2, none⟩ (.int .i64 ((fuse - 1 : Nat) : Int))) fun e w' => e = .returned (.tuple #[]) ∧ Q w') :
    Calls Tryd.prog 34 #[.pointer (some ⟨dp, 0, none⟩), .func (.func fn) #[] bs] w fun e w' => e = .returned (.int .i64 0) ∧ Q w' := by
  obtain ⟨c0, c1, c2, c3, f1, f2, f3⟩ := blk4 h.top
  have HC := Lib.hid hc
  clear hc
  rcases Nat.lt_or_ge fuse 1 with h0 | h0
  · obtain rfl : fuse = 0 := by omega
    clear hf hl h0
    go_enter Tryd.func34, Tryd.ntmps34
    go_wp2_with fail
    refine HC.out.mono ?_
    rintro e w' ⟨rfl, hq⟩
    go_wp2
    go_ret
    exact ⟨rfl, hq⟩
  · have hne : ((fuse : Nat) : Int) ≠ 1 := by omega
    have h2 : ¬ ((fuse : Nat) : Int) - 1 < 0 := by omega
    have h3 : (0 : Int) ≤ ((fuse : Nat) : Int) - 1 := by omega
    have h4 : (1 : Int) ≤ ((fuse : Nat) : Int) := by omega
    have h5 : ((fuse - 1 : Nat) : Int) = ((fuse : Nat) : Int) - 1 := by omega
    rw [h5] at HC
    clear h5 hf
    go_enter Tryd.func34, Tryd.ntmps34
    go_wp2_with fail
    refine HC.out.mono ?_
    rintro e w' ⟨rfl, hq⟩
    go_wp2
    go_ret
    exact ⟨rfl, hq⟩
theorem cell_lt {w : World} {p i : Nat} {u : Value} (h : w.cell? ⟨p, i, none⟩ = some u) : p < w.heap.size := by
  rcases Nat.lt_or_ge p w.heap.size with hlt | hge
  · exact hlt
  · simp [World.cell?, Array.getElem?_eq_none hge] at h
/-- No more entries than files. -/
theorem tight {n : Nat} (h : w.ownsMap Tryd.prog 9 ptrElem bm n (dOf M)) : w.ownsMap Tryd.prog 9 ptrElem bm M.length (dOf M) := by
  obtain ⟨es, clock, hb, F, hs, hD⟩ := h
  refine ⟨es, clock, hb, F, ?_, hD⟩
  have e := congrArg Maps.size hD
  rw [dOf_size] at e
  have e2 := length_read (P := Tryd.prog) (k := 9) (R0 := ptrElem) es
  rw [e]
  show es.size ≤ ((es.toList.map (WideElems.rg Tryd.prog 9 ptrElem)).foldr DataW.insert []).length
  omega
/-- The map written: other files, of which each lies there. -/
theorem FsAt.remap {w' : World} {n : Nat} {M' : List Fl} (h : FsAt w dp bm M free fuse down) (hg : w.grownBy w' (some bm)) (hmp : w'.ownsMap Tryd.prog 9 ptrElem bm n (dOf M')) (hr : Rise M') (hF : ∀ f ∈ M', FileAt w f)
    (hfb : ∀ f ∈ M', ∀ g ∈ M', f.fb = g.fb → f = g) (hrb : ∀ f ∈ M', ∀ g ∈ M', ∀ r, f.v.ownBlock = some r → g.v.ownBlock = some r → f = g) : FsAt w' dp bm M' free fuse down where
  top := Blk.grown h.top hg (by intro e; injection e with e; exact h.ap.1 e)
  mp := tight hmp
  rise := hr
  files := fun f hf => by
    obtain ⟨es, clock, hb, _⟩ := h.mp
    have hf1 := hF f hf
    refine hf1.keep (hg.block _ hf1.lt.1 ?_) fun r hr => hg.block r (hf1.lt.2 r hr) ?_
    · intro e; injection e with e
      have : w.heap[f.fb]? = _ := hf1.1
      rw [e, hb] at this; cases this
    · intro e; injection e with e
      obtain ⟨cap, cur, _, hc, _⟩ := hf1.row hr
      rw [e, hb] at hc; cases hc
  fbs := hfb
  rbs := hrb
theorem map_put {n : Nat} (h : w.ownsMap Tryd.prog 9 ptrElem bm n (dOf M)) (hn : n < maxLen) (x : Fl) (s : ByteArray) (hs : s.size ≤ maxLen) (hx : x.name = s.data.toList) :
    ∃ w', (Instr.mapUpdate 47 (.map (some bm)) (.string s) (.pointer (some ⟨x.fb, 0, none⟩))).run Tryd.prog w = .ok () w' ∧ w'.ownsMap Tryd.prog 9 ptrElem bm (n + 1) (dOf (insF x (delF x.name M))) ∧ w.mapTurned w' bm := by
  obtain ⟨w', h1, h2, h3⟩ := h.store law_str Tryd.underlying47 hn (key_str hs) (d := .lit (.int .i64 (x.fb : Nat))) (ps := []) (val := .pointer (some ⟨x.fb, 0, none⟩)) rfl
  refine ⟨w', h1, ?_, h3⟩
  rw [← hx, dOf_put] at h2
  exact h2
theorem map_del {n : Nat} (h : w.ownsMap Tryd.prog 9 ptrElem bm n (dOf M)) (s : ByteArray) (hs : s.size ≤ maxLen) (ty : TypeId) :
    ∃ w', (Builtin.delete_ #[47, 9] ty #[.map (some bm), .string s]).run Tryd.prog w = .ok (.tuple #[]) w' ∧ w'.ownsMap Tryd.prog 9 ptrElem bm n (dOf (delF s.data.toList M)) ∧ w.mapTurned w' bm := by
  obtain ⟨w', h1, h2, h3⟩ := h.drop law_str Tryd.underlying47 (key_str hs) ty
  refine ⟨w', h1, ?_, h3⟩
  rw [dOf_del] at h2
  exact h2
def newF (nm : List UInt8) (b : Nat) : Fl := ⟨nm, [], 0, b, .slice none 0 0⟩
theorem newF_at {w : World} (nm : List UInt8) : FileAt (w.alloc (.cells #[.slice none 0 0, .int .i64 0] 64)) (newF nm w.heap.size) :=
  ⟨Blk.new w _ _, ⟨rfl, .inl ⟨rfl, rfl⟩⟩, Nat.le_refl _⟩
set_option maxHeartbeats 1000000 in
set_option maxRecDepth 100000 in
theorem create1_any (h : FsAt w dp bm M free fuse down) (p0 p1 : Nat) (s : ByteArray) (hs : s.size ≤ maxLen) (hlen : M.length < maxLen) (c0 : w.cell? ⟨p0, 0, none⟩ = some (.pointer (some ⟨dp, 0, none⟩))) (c1 : w.cell? ⟨p1, 0, none⟩ = some (.string s)) (hn : look s.data.toList M = none) :
    Calls Tryd.prog 35 #[.pointer (some ⟨p0, 0, none⟩), .pointer (some ⟨p1, 0, none⟩)] w fun e w' => e = .returned (.tuple #[]) ∧ FsAt w' dp bm (insF (newF s.data.toList w.heap.size) M) free fuse down ∧ Kept (Own dp bm M) w w' := by
  have mixed : Tryd.prog.follows .mixedOrders = true := by kernel_rfl
  have t0 : w.cell? ⟨dp, 0, none⟩ = some (.map (some bm)) := h.top.cell 0
  have h1 := (h.drew).alloc (.cells #[.slice none 0 0, .int .i64 0] 64)
  obtain ⟨w1, hrun, hmp, hturn⟩ := map_put h1.mp hlen (newF s.data.toList w.heap.size) s hs rfl
  have hP : (Instr.mapUpdate 47 (.map (some bm)) (.string s) (.pointer (some ⟨w.heap.size, 0, none⟩))).run Tryd.prog (w.alloc (.cells #[.slice none 0 0, .int .i64 0] 64)).drew = .ok () w1 := hrun
  rw [show delF (newF s.data.toList w.heap.size).name M = M from del_none hn] at hmp
  have HF := Lib.hid (show FsAt w1 dp bm (insF (newF s.data.toList w.heap.size) M) free fuse down by
    refine h1.remap hturn.grown hmp (h.rise.ins fun f hf => look_none hn f hf) (fun f hf => ?_) ?_ ?_
    · rcases mem_ins.1 hf with rfl | hf
      · exact newF_at (w := w.drew) _
      · exact h1.files f hf
    · intro f hf g hg e
      rcases mem_ins.1 hf with rfl | hf <;> rcases mem_ins.1 hg with rfl | hg
      · rfl
      · have := (h.files g hg).lt.1; rw [← e] at this; exact absurd this (Nat.lt_irrefl _)
      · have := (h.files f hf).lt.1; rw [e] at this; exact absurd this (Nat.lt_irrefl _)
      · exact h.fbs f hf g hg e
    · intro f hf g hg r h1 h2
      rcases mem_ins.1 hf with rfl | hf
      · cases h1
      · rcases mem_ins.1 hg with rfl | hg
        · cases h2
        · exact h.rbs f hf g hg r h1 h2)
  have HK := Lib.hid (show Kept (Own dp bm M) w w1 from (((Kept.refl _ w).drew).alloc _).grown hturn.grown (fun j hj => by cases hj; exact .inl (.inr (.inl rfl))))
  have l0 : p0 < w.heap.size := cell_lt c0
  have l1 : p1 < w.heap.size := cell_lt c1
  have l2 : dp < w.heap.size := h.top.lt
  have hkp : ∀ p, p < w.heap.size → p ≠ bm → w1.heap[p]? = w.heap[p]? := fun p hp hne => (hturn.grown.block p (by simp; omega) (by intro e; injection e with e; exact hne e)).trans (Below.heap_alloc w.drew _ p hp)
  have nm0 : p0 ≠ bm := fun e => by obtain ⟨es, clock, hb, _⟩ := h.mp; subst e; simp [World.cell?, hb] at c0
  have nm1 : p1 ≠ bm := fun e => by obtain ⟨es, clock, hb, _⟩ := h.mp; subst e; simp [World.cell?, hb] at c1
  have HS1 := Lib.hid (show w1.cell? ⟨p0, 0, none⟩ = some (.pointer (some ⟨dp, 0, none⟩)) ∧ w1.cell? ⟨p1, 0, none⟩ = some (.string s) ∧ w1.cell? ⟨dp, 0, none⟩ = some (.map (some bm)) from
    ⟨(World.cell?_of_block (a := ⟨p0, 0, none⟩) (hkp p0 l0 nm0)).trans c0, (World.cell?_of_block (a := ⟨p1, 0, none⟩) (hkp p1 l1 nm1)).trans c1, (World.cell?_of_block (a := ⟨dp, 0, none⟩) (hkp dp l2 h.ap.1)).trans t0⟩)
  clear hrun hmp hturn h1 hkp nm0 nm1
  go_enter Tryd.func35, Tryd.ntmps35
  go_wp2_with fail
  refine wp_region_held_drew (S := fun W => W.cell? ⟨p0, 0, none⟩ = some (.pointer (some ⟨dp, 0, none⟩)) ∧ W.cell? ⟨p1, 0, none⟩ = some (.string s) ∧ W.cell? ⟨dp, 0, none⟩ = some (.map (some bm))) mixed ⟨c0, c1, t0⟩ (fun hS => ?_)
  refine wpAnyH_take (i := 0) (v := .pointer (some ⟨dp, 0, none⟩)) rfl (by kernel_rfl) (by kernel_rfl) (by kernel_rfl) (fun _ _ _ h => h) (Or.inl ⟨by rfl, fun W hW => by obtain ⟨h0, h1, h2⟩ := hW; go_simp⟩) hS ?_
  refine wpAnyH_take (i := 1) (v := .pointer (some ⟨dp, 0, none⟩)) rfl (by kernel_rfl) (by kernel_rfl) (by kernel_rfl) (fun _ _ _ h => h) (Or.inl ⟨by rfl, fun W hW => by obtain ⟨h0, h1, h2⟩ := hW; go_simp⟩) hS ?_
  refine wpAnyH_take (i := 2) (v := .pointer (some ⟨dp, 0, none⟩)) rfl (by kernel_rfl) (by kernel_rfl) (by kernel_rfl) (fun _ _ _ h => h) (Or.inl ⟨by rfl, fun W hW => by obtain ⟨h0, h1, h2⟩ := hW; go_simp⟩) hS ?_
  refine wpAnyH_take (i := 3) (v := .map (some bm)) rfl (by kernel_rfl) (by kernel_rfl) (by kernel_rfl) (fun _ _ _ h => h) (Or.inl ⟨by rfl, fun W hW => by obtain ⟨h0, h1, h2⟩ := hW; go_simp⟩) hS ?_
  refine wpAnyH_take (i := 4) (v := .string s) rfl (by kernel_rfl) (by kernel_rfl) (by kernel_rfl) (fun _ _ _ h => h) (Or.inl ⟨by rfl, fun W hW => by obtain ⟨h0, h1, h2⟩ := hW; go_simp⟩) hS ?_
  refine wpAnyH_take (i := 5) (v := .agg #[.slice none 0 0, .int .i64 0]) rfl (by kernel_rfl) (by kernel_rfl) (by kernel_rfl) (fun _ _ _ h => h) (Or.inl ⟨by rfl, fun W hW => by obtain ⟨h0, h1, h2⟩ := hW; go_simp⟩) hS ?_
  refine wpAnyH_ready (rs := [6]) (by kernel_rfl) (by simp) ?_
  refine AllReadyH.cons rfl (fun K hK => ?_) AllReadyH.nil
  go_simp
  refine hK.out _ _ ⟨(World.cell?_of_block (a := ⟨p0, 0, none⟩) (Below.heap_alloc w.drew _ p0 l0)).trans c0, (World.cell?_of_block (a := ⟨p1, 0, none⟩) (Below.heap_alloc w.drew _ p1 l1)).trans c1, (World.cell?_of_block (a := ⟨dp, 0, none⟩) (Below.heap_alloc w.drew _ dp l2)).trans t0⟩ (fun hS => ?_)
  clear hK K
  refine wpAnyH_ready (rs := [7]) (by kernel_rfl) (by simp) ?_
  refine AllReadyH.cons rfl (fun K hK => ?_) AllReadyH.nil
  go_simp
  refine hK.out _ _ (HS1.out) (fun hS => ?_)
  clear hK K
  refine wpAnyH_done (by kernel_rfl) ?_ _
  go_wp2
  go_end0
  exact ⟨rfl, HF.out, HK.out⟩
end
end Go.Proofs.YtdhiofbimebbkaaDoor
