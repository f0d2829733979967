/- Open: a session at its beginning. -/
import Derived.Test.YtgcbcdbfeaepkaaNc
import Derived.Laws.MakeOwn
import Derived.Deep.RegionHeld3
namespace Go.Proofs.Ytgcbcdbfeaepkaa
open Go.RowKit Go.Maps

/-- Chunks among a law's arguments. -/
def ArgCh (w : World) (A : Option Addr) (n : Nat) (cks : List Ck) : Prop :=
  cks.length = n ∧ n * 32 ≤ 140737488355328 ∧ (∀ k ∈ cks, BytesAt w k.A k.m k.bs ∧ k.m ≤ 140737488355328) ∧ (0 < n → ∃ b o, A = some ⟨b, o, none⟩ ∧ b < w.heap.size ∧ ∀ i k, cks[i]? = some k → w.cell? ⟨b, o + i * 2, none⟩ = some (.int .i64 k.wait) ∧ w.cell? ⟨b, o + i * 2 + 1, none⟩ = some (.slice k.A k.m k.d))
theorem ArgCh.below {w w' : World} {A : Option Addr} {n : Nat} {cks : List Ck} (h : ArgCh w A n cks) (hb : Below w.heap.size w w') : ArgCh w' A n cks := by
  obtain ⟨h1, h2, h3, h4⟩ := h
  refine ⟨h1, h2, fun k hk => ⟨(h3 k hk).1.below hb, (h3 k hk).2⟩, fun hn => ?_⟩
  obtain ⟨b, o, e, hlt, hc⟩ := h4 hn
  exact ⟨b, o, e, Nat.lt_of_lt_of_le hlt hb.size, fun i k hi => ⟨(hb.cell (p := ⟨b, o + i * 2, none⟩) hlt).trans (hc i k hi).1, (hb.cell (p := ⟨b, o + i * 2 + 1, none⟩) hlt).trans (hc i k hi).2⟩⟩
theorem chunk_info : (Try.prog.info? 103).map (fun i => (i.zero, i.size, i.bytes)) = some (some (.agg #[.int .i64 0, .slice none 0 0]), 2, 32) := by kernel_rfl
/-- What Open's loop has made: the session's own cells; chunks, the first of which are copied. -/
structure OInv (w V : World) (lp cb n j : Nat) (fin wait : Int) (ds : List (Int × List UInt8)) (cs : List Ck) : Prop where
  top : Blk V lp 158 #[.slice (some ⟨cb, 0, none⟩) n n, .int .i64 fin, .int .i64 wait, .int .i64 0, .int .i64 0, .slice none 0 0]
  cbw : cb < V.heap.size ∧ w.heap.size ≤ cb ∧ cb < lp
  len : cs.length = j
  plain : plainD cs = ds
  cell : ∀ i k, cs[i]? = some k → V.cell? ⟨cb, i * 2, none⟩ = some (.int .i64 k.wait) ∧ V.cell? ⟨cb, i * 2 + 1, none⟩ = some (.slice k.A k.m k.d)
  here : ∀ x, x < n * 2 → (V.cell? ⟨cb, x, none⟩).isSome = true ∧ V.frozen? ⟨cb, x, none⟩ = false
  bytes : ∀ k ∈ cs, BytesAt V k.A k.m k.bs ∧ ∀ i, InB k.A i → lp < i ∧ i < V.heap.size
  caps : ∀ k ∈ cs, k.m ≤ k.d ∧ k.d ≤ maxLen
  old : Below w.heap.size w V
theorem OInv.below {w V V' : World} {lp cb n j : Nat} {fin wait : Int} {ds : List (Int × List UInt8)} {cs : List Ck} (h : OInv w V lp cb n j fin wait ds cs) (hb : Below V.heap.size V V') : OInv w V' lp cb n j fin wait ds cs :=
  ⟨(hb.block lp h.top.lt).trans h.top, ⟨Nat.lt_of_lt_of_le h.cbw.1 hb.size, h.cbw.2⟩, h.len, h.plain,
    fun i k hi => ⟨(hb.cell (p := ⟨cb, i * 2, none⟩) h.cbw.1).trans (h.cell i k hi).1, (hb.cell (p := ⟨cb, i * 2 + 1, none⟩) h.cbw.1).trans (h.cell i k hi).2⟩,
    fun x hx => ⟨by rw [hb.cell (p := ⟨cb, x, none⟩) h.cbw.1]; exact (h.here x hx).1, by rw [hb.frozen (p := ⟨cb, x, none⟩) h.cbw.1]; exact (h.here x hx).2⟩,
    fun k hk => ⟨(h.bytes k hk).1.below hb, fun i hi => ⟨((h.bytes k hk).2 i hi).1, Nat.lt_of_lt_of_le ((h.bytes k hk).2 i hi).2 hb.size⟩⟩, h.caps, h.old.trans (hb.mono h.old.size)⟩
/-- One chunk more is copied. -/
theorem OInv.put {w V : World} {lp cb n j : Nat} {fin wait : Int} {ds : List (Int × List UInt8)} {cs : List Ck} (h : OInv w V lp cb n j fin wait ds cs) (hj : j < n) (k : Ck) (hb : BytesAt V k.A k.m k.bs) (hf : ∀ i, InB k.A i → lp < i ∧ i < V.heap.size) (hc : k.m ≤ k.d ∧ k.d ≤ maxLen) :
    OInv w ((V.setCell ⟨cb, j * 2, none⟩ (.int .i64 k.wait)).setCell ⟨cb, j * 2 + 1, none⟩ (.slice k.A k.m k.d)) lp cb n (j + 1) fin wait (ds ++ [(k.wait, k.bs)]) (cs ++ [k]) := by
  have hk2 : Kept (fun i => i = cb) V ((V.setCell ⟨cb, j * 2, none⟩ (.int .i64 k.wait)).setCell ⟨cb, j * 2 + 1, none⟩ (.slice k.A k.m k.d)) := ((Kept.refl (fun i => i = cb) V).set_ (p := ⟨cb, j * 2, none⟩) (.inl rfl) _).set_ (p := ⟨cb, j * 2 + 1, none⟩) (.inl rfl) _
  have hcb := h.cbw
  have other : ∀ x, x ≠ j * 2 → x ≠ j * 2 + 1 → ((V.setCell ⟨cb, j * 2, none⟩ (.int .i64 k.wait)).setCell ⟨cb, j * 2 + 1, none⟩ (.slice k.A k.m k.d)).cell? ⟨cb, x, none⟩ = V.cell? ⟨cb, x, none⟩ := fun x h1 h2 => by
    rw [show ((V.setCell ⟨cb, j * 2, none⟩ (.int .i64 k.wait)).setCell ⟨cb, j * 2 + 1, none⟩ (.slice k.A k.m k.d)).cell? ⟨cb, x, none⟩ = (V.setCell ⟨cb, j * 2, none⟩ (.int .i64 k.wait)).cell? ⟨cb, x, none⟩ by
      apply World.cell?_setCell_other
      intro e; injection e with _ e _; exact h2 e.symm]
    apply World.cell?_setCell_other
    intro e; injection e with _ e _; exact h1 e.symm
  have at0 : ((V.setCell ⟨cb, j * 2, none⟩ (.int .i64 k.wait)).setCell ⟨cb, j * 2 + 1, none⟩ (.slice k.A k.m k.d)).cell? ⟨cb, j * 2, none⟩ = some (.int .i64 k.wait) := by
    rw [show ((V.setCell ⟨cb, j * 2, none⟩ (.int .i64 k.wait)).setCell ⟨cb, j * 2 + 1, none⟩ (.slice k.A k.m k.d)).cell? ⟨cb, j * 2, none⟩ = (V.setCell ⟨cb, j * 2, none⟩ (.int .i64 k.wait)).cell? ⟨cb, j * 2, none⟩ by
      apply World.cell?_setCell_other
      intro e; injection e with _ e _; omega]
    obtain ⟨u, hu⟩ := Option.isSome_iff_exists.1 (h.here (j * 2) (by omega)).1
    apply World.cell?_setCell_same (u := u)
    exact hu
  have at1 : ((V.setCell ⟨cb, j * 2, none⟩ (.int .i64 k.wait)).setCell ⟨cb, j * 2 + 1, none⟩ (.slice k.A k.m k.d)).cell? ⟨cb, j * 2 + 1, none⟩ = some (.slice k.A k.m k.d) := by
    obtain ⟨u, hu⟩ := Option.isSome_iff_exists.1 (h.here (j * 2 + 1) (by omega)).1
    apply World.cell?_setCell_same (u := u)
    rw [← hu]
    apply World.cell?_setCell_other
    intro e; injection e with _ e _; omega
  refine ⟨(hk2.block lp h.top.lt (by omega)).trans h.top, ⟨by simpa [World.setCell] using hcb.1, hcb.2⟩, by rw [List.length_append, h.len]; rfl, by unfold plainD; rw [List.map_append, ← h.plain]; rfl, fun i k2 hi => ?_, fun x hx => ?_, fun k2 hk => ?_, fun k2 hk => ?_, h.old.trans (hk2.below h.old.size (fun i e => e ▸ hcb.2.1))⟩
  · by_cases hij : i < j
    · rw [List.getElem?_append_left (by rw [h.len]; exact hij)] at hi
      rw [other _ (by omega) (by omega), other _ (by omega) (by omega)]
      exact h.cell i k2 hi
    · rw [List.getElem?_append_right (by rw [h.len]; omega), h.len] at hi
      have hl := (List.getElem?_eq_some_iff.1 hi).1
      have hij2 : i = j := by simp at hl; omega
      subst hij2
      rw [Nat.sub_self] at hi
      have e : k = k2 := by simpa using hi
      subst e
      exact ⟨at0, at1⟩
  · refine ⟨?_, by rw [World.frozen?_setCell, World.frozen?_setCell]; exact (h.here x hx).2⟩
    by_cases h1 : x = j * 2
    · subst h1; rw [at0]; rfl
    · by_cases h2 : x = j * 2 + 1
      · subst h2; rw [at1]; rfl
      · rw [other x h1 h2]; exact (h.here x hx).1
  · rcases List.mem_append.1 hk with hk | hk
    · exact ⟨(h.bytes k2 hk).1.kept hk2 (fun b o e hx => by have := (h.bytes k2 hk).2 b ⟨o, e⟩; omega), fun i hi => by simpa [World.setCell] using (h.bytes k2 hk).2 i hi⟩
    · have e : k2 = k := by simpa using hk
      subst e
      exact ⟨hb.kept hk2 (fun b o e hx => by have := hf b ⟨o, e⟩; omega), fun i hi => by simpa [World.setCell] using hf i hi⟩
  · rcases List.mem_append.1 hk with hk | hk
    · exact h.caps k2 hk
    · have e : k2 = k := by simpa using hk
      subst e
      exact hc
/-- The session that stands behind the loop. -/
theorem OInv.line {w V : World} {lp cb n : Nat} {fin wait : Int} {ds : List (Int × List UInt8)} {cs : List Ck} (h : OInv w V lp cb n n fin wait ds cs) (hn : n ≤ maxLen) : LS w V lp (fun j => j = lp ∨ j = cb) (fun j => lp < j ∧ j < V.heap.size) ⟨ds, fin, wait, 0, 0, []⟩ := by
  have hcb := h.cbw
  have hlp := h.top.lt
  have nn : ∀ j, ¬ InB none j := fun j ⟨o, e⟩ => by cases e
  have cc : ∀ j, InB (some (⟨cb, 0, none⟩ : Addr)) j → j = cb := fun j ⟨o, e⟩ => by injection e with e; injection e with e _ _; exact e.symm
  refine ⟨⟨_, n, n, cs, none, 0, 0, ⟨h.top, ⟨h.len, Nat.le_refl _, hn, fun k hk => ⟨(h.bytes k hk).1, h.caps k hk⟩, fun hn2 => ⟨cb, 0, rfl, hcb.1, fun i k hi => ?_⟩⟩, RowAt.nil _, ⟨fun hx => by have := cc _ hx; omega, nn _, fun j _ => nn j⟩, fun k hk j hj => ⟨?_, fun hx => ?_, nn j⟩⟩, h.plain, .inl rfl, fun j hj => .inr (cc j hj), fun j hj => (nn j hj).elim, fun k hk j hj => (h.bytes k hk).2 j hj⟩, fun j hj => ?_, fun j hj hx => ?_, h.old⟩
  · have hl := (List.getElem?_eq_some_iff.1 hi).1
    rw [h.len] at hl
    rw [Nat.zero_add]
    exact ⟨(h.cell i k hi).1, (h.cell i k hi).2, (h.here _ (by omega)).2⟩
  · have := (h.bytes k hk).2 j hj; omega
  · have := (h.bytes k hk).2 j hj
    have := cc j hx; omega
  · rcases hj with (rfl | rfl) | hj
    · exact ⟨hlp, by omega⟩
    · exact ⟨hcb.1, hcb.2.1⟩
    · exact ⟨hj.2, by omega⟩
  · rcases hj with rfl | rfl <;> omega
def OpenP (w : World) (s : Ls) (e : Ending) (w' : World) : Prop := ∃ lp X R, e = .returned (.pointer (some ⟨lp, 0, none⟩)) ∧ LS w w' lp X R s
def OL (w : World) (lp cb n : Nat) (fin wait : Int) (cks : List Ck) (i : Value) (V : World) : Prop := ∃ (j : Nat) (cs : List Ck), j ≤ n ∧ i = .int .i64 (j : Nat) ∧ OInv w V lp cb n j fin wait (plainD (cks.take j)) cs
set_option maxHeartbeats 4000000 in
set_option maxRecDepth 100000 in
theorem open_any {w : World} {A : Option Addr} {n c : Nat} {cks : List Ck} (fin wait : Int) (h : ArgCh w A n cks) : Calls Try.prog 41 #[.agg #[.slice A n c, .int .i64 fin, .int .i64 wait]] w (OpenP w ⟨plainD cks, fin, wait, 0, 0, []⟩) := by
  have mixed : Try.prog.follows .mixedOrders = true := by kernel_rfl
  obtain ⟨i0, hi0, hz0, hz1, hz2⟩ := info_parts chunk_info
  have hnb := h.2.1
  have HH := Lib.hid h
  obtain ⟨MC, hMC⟩ : ∃ MC, MC = madeCells (Value.agg #[.int .i64 0, .slice none 0 0]).cells (n * 2) := ⟨_, rfl⟩
  have hmk : ∀ W : World, (Instr.makeSlice 91 (.int .i64 (n : Int)) (.int .i64 (n : Int))).run Try.prog W = .ok (.slice (some ⟨W.heap.size, 0, none⟩) n n) (W.alloc (.cells MC 103)) := fun W => by
    have := run_make (P := Try.prog) W 91 103 i0 _ Try.underlying91 hi0 hz0 .i64 .i64 (n : Int) (n : Int) (by omega) (by omega) (by rw [hz2]; omega) (by omega)
    rw [this, Int.toNat_natCast, hz1, hMC]
  have hms : MC.size = n * 2 := by rw [hMC]; exact size_madeCells _ _
  have HMS := Lib.hid hms
  obtain ⟨b0, b1, b2, -, -, -⟩ := blk3 (Blk.new w 93 #[.slice A n c, .int .i64 fin, .int .i64 wait])
  have HK := Lib.hid hmk
  have hn63 : n ≤ 4611686018427387904 := by omega
  clear hMC hms h hi0 hz0 hz1 hz2 hmk
  go_enter Try.func41, Try.ntmps41
  go_wp2_with fail
  refine wp_region_held_drew (S := fun W => W.cell? ⟨w.heap.size, 0, none⟩ = some (.slice A n c) ∧ W.cell? ⟨w.heap.size, 1, none⟩ = some (.int .i64 fin) ∧ W.cell? ⟨w.heap.size, 2, none⟩ = some (.int .i64 wait)) mixed ⟨b0, b1, b2⟩ (fun hS => ?_)
  refine wpAnyH_take (i := 0) (v := .pointer (some ⟨w.heap.size, 0, none⟩)) rfl (by kernel_rfl) (by kernel_rfl) (by kernel_rfl) (fun _ _ _ h => h) (Or.inl ⟨by rfl, fun W hW => by obtain ⟨h0, h1, h2⟩ := hW; go_simp⟩) hS ?_
  refine wpAnyH_take (i := 1) (v := .slice A n c) rfl (by kernel_rfl) (by kernel_rfl) (by kernel_rfl) (fun _ _ _ h => h) (Or.inl ⟨by rfl, fun W hW => by obtain ⟨h0, h1, h2⟩ := hW; go_simp⟩) hS ?_
  refine wpAnyH_take (i := 2) (v := .int .i64 (n : Nat)) rfl (by kernel_rfl) (by kernel_rfl) (by kernel_rfl) (fun _ _ _ h => h) (Or.inl ⟨by rfl, fun W hW => by obtain ⟨h0, h1, h2⟩ := hW; go_simp⟩) hS ?_
  refine wpAnyH_take (i := 4) (v := .pointer (some ⟨w.heap.size, 1, none⟩)) rfl (by kernel_rfl) (by kernel_rfl) (by kernel_rfl) (fun _ _ _ h => h) (Or.inl ⟨by rfl, fun W hW => by obtain ⟨h0, h1, h2⟩ := hW; go_simp⟩) hS ?_
  refine wpAnyH_take (i := 5) (v := .int .i64 fin) rfl (by kernel_rfl) (by kernel_rfl) (by kernel_rfl) (fun _ _ _ h => h) (Or.inl ⟨by rfl, fun W hW => by obtain ⟨h0, h1, h2⟩ := hW; go_simp⟩) hS ?_
  refine wpAnyH_take (i := 6) (v := .pointer (some ⟨w.heap.size, 2, none⟩)) rfl (by kernel_rfl) (by kernel_rfl) (by kernel_rfl) (fun _ _ _ h => h) (Or.inl ⟨by rfl, fun W hW => by obtain ⟨h0, h1, h2⟩ := hW; go_simp⟩) hS ?_
  refine wpAnyH_take (i := 7) (v := .int .i64 wait) rfl (by kernel_rfl) (by kernel_rfl) (by kernel_rfl) (fun _ _ _ h => h) (Or.inl ⟨by rfl, fun W hW => by obtain ⟨h0, h1, h2⟩ := hW; go_simp⟩) hS ?_
  refine wpAnyH_ready (rs := [3]) (by kernel_rfl) (by simp) ?_
  refine AllReadyH.cons rfl (fun K hK => ?_) AllReadyH.nil
  have hmk := HK.out
  go_simp
  have t1 := ((Blk.new w 93 #[.slice A n c, .int .i64 fin, .int .i64 wait]).alloc (.cells MC 103)).drew
  refine hK.out _ _ ⟨t1.cell 0, t1.cell 1, t1.cell 2⟩ (fun hS => ?_)
  clear hK K hmk t1
  refine wpAnyH_take (i := 8) (v := .agg #[.slice (some ⟨w.heap.size + 1, 0, none⟩) n n, .int .i64 fin, .int .i64 wait, .int .i64 0, .int .i64 0, .slice none 0 0]) rfl (by kernel_rfl) (by kernel_rfl) (by kernel_rfl) (fun _ _ _ h => h) (Or.inl ⟨by rfl, fun W hW => by obtain ⟨h0, h1, h2⟩ := hW; go_simp⟩) hS ?_
  refine wpAnyH_ready (rs := [9]) (by kernel_rfl) (by simp) ?_
  refine AllReadyH.cons rfl (fun K hK => ?_) AllReadyH.nil
  go_simp
  have t2 := (((Blk.new w 93 #[.slice A n c, .int .i64 fin, .int .i64 wait]).alloc (.cells MC 103)).alloc (.cells #[.slice (some ⟨w.heap.size + 1, 0, none⟩) n n, .int .i64 fin, .int .i64 wait, .int .i64 0, .int .i64 0, .slice none 0 0] 158)).drew
  refine hK.out _ _ ⟨t2.cell 0, t2.cell 1, t2.cell 2⟩ (fun hS => ?_)
  clear hK K
  refine wpAnyH_ready (rs := [10]) (by kernel_rfl) (by simp) ?_
  refine AllReadyH.cons rfl (fun K hK => ?_) AllReadyH.nil
  go_simp
  refine hK.out _ _ hS (fun hS => ?_)
  clear hK K
  refine wpAnyH_done (by kernel_rfl) ?_ _
  clear hS b0 b1 b2
  have hi0 := t2.cell 0
  have hin : OInv w ((((w.alloc (.cells #[.slice A n c, .int .i64 fin, .int .i64 wait] 93)).alloc (.cells MC 103)).alloc (.cells #[.slice (some ⟨w.heap.size + 1, 0, none⟩) n n, .int .i64 fin, .int .i64 wait, .int .i64 0, .int .i64 0, .slice none 0 0] 158)).drew) (w.heap.size + 1 + 1) (w.heap.size + 1) n 0 fin wait [] [] := by
    have hb1 := Blk.new (w.alloc (.cells #[.slice A n c, .int .i64 fin, .int .i64 wait] 93)) 103 MC
    have hb2 : Blk ((((w.alloc (.cells #[.slice A n c, .int .i64 fin, .int .i64 wait] 93)).alloc (.cells MC 103)).alloc (.cells #[.slice (some ⟨w.heap.size + 1, 0, none⟩) n n, .int .i64 fin, .int .i64 wait, .int .i64 0, .int .i64 0, .slice none 0 0] 158)).drew) (w.heap.size + 1) 103 MC := by
      have := (hb1.alloc (.cells #[.slice (some ⟨w.heap.size + 1, 0, none⟩) n n, .int .i64 fin, .int .i64 wait, .int .i64 0, .int .i64 0, .slice none 0 0] 158)).drew
      simpa using this
    refine ⟨?_, ⟨by simp, by omega, by omega⟩, rfl, rfl, fun i k hi => by simp at hi, fun x hx => ⟨?_, hb2.frozen x⟩, (fun k hk => by (cases hk)), (fun k hk => by (cases hk)), ?_⟩
    · have := Blk.new ((w.alloc (.cells #[.slice A n c, .int .i64 fin, .int .i64 wait] 93)).alloc (.cells MC 103)) 158 #[.slice (some ⟨w.heap.size + 1, 0, none⟩) n n, .int .i64 fin, .int .i64 wait, .int .i64 0, .int .i64 0, .slice none 0 0]
      simpa using this.drew
    · rw [hb2.cell x, Array.getElem?_eq_getElem (by rw [HMS.out]; exact hx)]; rfl
    · exact (((Below.refl w.heap.size w).alloc (Nat.le_refl _) _).alloc (by simp) _ |>.alloc (by simp; omega) _).drew
  have HIN := Lib.hid (show OL w (w.heap.size + 1 + 1) (w.heap.size + 1) n fin wait cks (.int .i64 0) _ from ⟨0, [], Nat.zero_le _, rfl, hin⟩)
  clear hin t2
  go_wp2_with fail
  go_loopw [19] (fun i wr => OL w (w.heap.size + 1 + 1) (w.heap.size + 1) n fin wait cks i wr) (fun i _ => n - (intOf i).toNat)
  case atStart => exact HIN.out
  case round =>
    clear HIN
    obtain ⟨j, cs, hj, rfl, h⟩ := hrel
    by_cases hlt : j < n
    · have hlt' : (j : Int) < (n : Int) := by omega
      obtain ⟨b, o, rfl, hbw, hcells⟩ := HH.out.2.2.2 (by omega)
      obtain ⟨k, hk⟩ : ∃ k, cks[j]? = some k := ⟨cks[j]'(by have := HH.out.1; omega), List.getElem?_eq_getElem _⟩
      obtain ⟨hkb, hkm⟩ := HH.out.2.2.1 k (List.mem_of_getElem? hk)
      obtain ⟨y0, y1⟩ := hcells j k hk
      rw [← h.old.cell (p := ⟨b, o + j * 2, none⟩) hbw] at y0
      rw [← h.old.cell (p := ⟨b, o + j * 2 + 1, none⟩) hbw] at y1
      have htk : plainD (cks.take (j + 1)) = plainD (cks.take j) ++ [(k.wait, k.bs)] := by
        obtain ⟨hl, e⟩ := List.getElem?_eq_some_iff.1 hk
        rw [List.take_succ_eq_append_getElem hl, e]
        unfold plainD
        rw [List.map_append]; rfl
      have HTK := Lib.hid htk
      obtain ⟨kw, kA, km, kd, kbs⟩ := k
      simp only at hkb hkm y0 y1
      have h1 := h.below ((Below.refl wr.heap.size wr).alloc (Nat.le_refl _) (.cells #[.int .i64 kw, .slice kA km kd] 103))
      have t1 := (h1.top).cell 0
      have t2 := (Blk.new wr 103 #[.int .i64 kw, .slice kA km kd]).cell 0
      have t3 := (Blk.new wr 103 #[.int .i64 kw, .slice kA km kd]).cell 1
      have C := Lib.hid (clone_row (w := (wr.alloc (.cells #[.int .i64 kw, .slice kA km kd] 103)).drew) kd ((hkb.up (fun b hb => h1.old.block b hb) h1.old.size : BytesAt _ _ _ _)) hkm)
      have H1 := Lib.hid h1
      have hwl := h1.top.lt
      have HOB := Lib.hid (Blk.new wr 103 #[.int .i64 kw, .slice kA km kd])
      clear hcells hk htk h h1 hkb
      go_wp2_with fail
      refine wp_region_held_drew (S := fun W => W.cell? ⟨w.heap.size + 1 + 1, 0, none⟩ = some (.slice (some ⟨w.heap.size + 1, 0, none⟩) n n) ∧ W.cell? ⟨wr.heap.size, 0, none⟩ = some (.int .i64 kw) ∧ W.cell? ⟨wr.heap.size, 1, none⟩ = some (.slice kA km kd)) mixed ⟨t1, t2, t3⟩ (fun hS => ?_)
      refine wpAnyH_take (i := 0) (v := .pointer (some ⟨w.heap.size + 1 + 1, 0, none⟩)) rfl (by kernel_rfl) (by kernel_rfl) (by kernel_rfl) (fun _ _ _ h => h) (Or.inl ⟨by rfl, fun W hW => by obtain ⟨h0, h1, h2⟩ := hW; go_simp⟩) hS ?_
      refine wpAnyH_take (i := 1) (v := .pointer (some ⟨w.heap.size + 1 + 1, 0, none⟩)) rfl (by kernel_rfl) (by kernel_rfl) (by kernel_rfl) (fun _ _ _ h => h) (Or.inl ⟨by rfl, fun W hW => by obtain ⟨h0, h1, h2⟩ := hW; go_simp⟩) hS ?_
      refine wpAnyH_take (i := 2) (v := .pointer (some ⟨w.heap.size + 1 + 1, 0, none⟩)) rfl (by kernel_rfl) (by kernel_rfl) (by kernel_rfl) (fun _ _ _ h => h) (Or.inl ⟨by rfl, fun W hW => by obtain ⟨h0, h1, h2⟩ := hW; go_simp⟩) hS ?_
      refine wpAnyH_take (i := 3) (v := .slice (some ⟨w.heap.size + 1, 0, none⟩) n n) rfl (by kernel_rfl) (by kernel_rfl) (by kernel_rfl) (fun _ _ _ h => h) (Or.inl ⟨by rfl, fun W hW => by obtain ⟨h0, h1, h2⟩ := hW; go_simp⟩) hS ?_
      refine wpAnyH_take (i := 4) (v := .int .i64 (j : Nat)) rfl (by kernel_rfl) (by kernel_rfl) (by kernel_rfl) (fun _ _ _ h => h) (Or.inl ⟨by rfl, fun W hW => by obtain ⟨h0, h1, h2⟩ := hW; go_simp⟩) hS ?_
      refine wpAnyH_take (i := 5) (v := .pointer (some ⟨wr.heap.size, 0, none⟩)) rfl (by kernel_rfl) (by kernel_rfl) (by kernel_rfl) (fun _ _ _ h => h) (Or.inl ⟨by rfl, fun W hW => by obtain ⟨h0, h1, h2⟩ := hW; go_simp⟩) hS ?_
      refine wpAnyH_take (i := 6) (v := .int .i64 kw) rfl (by kernel_rfl) (by kernel_rfl) (by kernel_rfl) (fun _ _ _ h => h) (Or.inl ⟨by rfl, fun W hW => by obtain ⟨h0, h1, h2⟩ := hW; go_simp⟩) hS ?_
      refine wpAnyH_take (i := 7) (v := .pointer (some ⟨wr.heap.size, 1, none⟩)) rfl (by kernel_rfl) (by kernel_rfl) (by kernel_rfl) (fun _ _ _ h => h) (Or.inl ⟨by rfl, fun W hW => by obtain ⟨h0, h1, h2⟩ := hW; go_simp⟩) hS ?_
      refine wpAnyH_take (i := 8) (v := .slice kA km kd) rfl (by kernel_rfl) (by kernel_rfl) (by kernel_rfl) (fun _ _ _ h => h) (Or.inl ⟨by rfl, fun W hW => by obtain ⟨h0, h1, h2⟩ := hW; go_simp⟩) hS ?_
      refine wpAnyH_ready (rs := [9]) (by kernel_rfl) (by simp) ?_
      refine AllReadyH.cons rfl (fun K hK => ?_) AllReadyH.nil
      go_simp
      refine C.out.mono ?_
      rintro e V2 ⟨A2, c2, rfl, r2, n2, b2⟩
      have b3 : Below (wr.alloc (.cells #[.int .i64 kw, .slice kA km kd] 103)).heap.size (wr.alloc (.cells #[.int .i64 kw, .slice kA km kd] 103)) V2 := ((Below.refl _ (wr.alloc (.cells #[.int .i64 kw, .slice kA km kd] 103))).drew).trans b2
      have h2 := H1.out.below b3
      have hob2 := HOB.out.below b3 (by simp)
      have s1 := h2.top.cell 0
      have s2 := hob2.cell 0
      have s3 := hob2.cell 1
      refine hK.out _ _ ⟨s1, s2, s3⟩ (fun hS => ?_)
      clear hK K
      have hcb := h2.cbw
      have hw2 := hwl
      have hp := h2.put hlt ⟨kw, A2, km, c2, kbs⟩ r2.bytes (fun i hi => ⟨by have := n2 i hi; simp at this hw2; omega, r2.lt hi⟩) ⟨r2.le, r2.max⟩
      rw [← HTK.out] at hp
      obtain ⟨u0, hu0⟩ := Option.isSome_iff_exists.1 (h2.here (j * 2) (by omega)).1
      obtain ⟨u1, hu1⟩ := Option.isSome_iff_exists.1 (h2.here (j * 2 + 1) (by omega)).1
      have fz0 := (h2.here (j * 2) (by omega)).2
      have fz1 := (h2.here (j * 2 + 1) (by omega)).2
      have HP := Lib.hid (show OL w (w.heap.size + 1 + 1) (w.heap.size + 1) n fin wait cks (.int .i64 ((j + 1 : Nat) : Int)) _ from ⟨j + 1, _, by omega, rfl, hp⟩)
      have hs1 := ((h2.top).far (p := ⟨w.heap.size + 1, j * 2, none⟩) (by show w.heap.size + 1 + 1 ≠ w.heap.size + 1; omega) (.int .i64 kw)).far (p := ⟨w.heap.size + 1, j * 2 + 1, none⟩) (by show w.heap.size + 1 + 1 ≠ w.heap.size + 1; omega) (.slice A2 km c2)
      have hs2 := (hob2.far (p := ⟨w.heap.size + 1, j * 2, none⟩) (by simp at hw2; show wr.heap.size ≠ w.heap.size + 1; omega) (.int .i64 kw)).far (p := ⟨w.heap.size + 1, j * 2 + 1, none⟩) (by simp at hw2; show wr.heap.size ≠ w.heap.size + 1; omega) (.slice A2 km c2)
      have HS1 := Lib.hid (hs1.cell 0)
      have HS2 := Lib.hid (hs2.cell 0)
      have HS3 := Lib.hid (hs2.cell 1)
      clear hp r2 n2 b2 b3 h2 hob2 hs1 hs2 H1 HOB C hcb
      refine wpAnyH_ready (rs := [10]) (by kernel_rfl) (by simp) ?_
      refine AllReadyH.cons rfl (fun K hK => ?_) AllReadyH.nil
      go_simp
      refine hK.out _ _ hS (fun hS => ?_)
      clear hK K
      refine wpAnyH_ready (rs := [11]) (by kernel_rfl) (by simp) ?_
      refine AllReadyH.cons rfl (fun K hK => ?_) AllReadyH.nil
      go_simp
      refine hK.out _ _ hS (fun hS => ?_)
      clear hK K
      refine wpAnyH_ready (rs := [12]) (by kernel_rfl) (by simp) ?_
      refine AllReadyH.cons rfl (fun K hK => ?_) AllReadyH.nil
      go_simp
      refine hK.out _ _ ⟨HS1.out, HS2.out, HS3.out⟩ (fun hS => ?_)
      clear hK K
      refine wpAnyH_done (by kernel_rfl) ?_ _
      clear hS
      go_wp2_with fail
      go_roundw
      case rel =>
        have := HP.out
        rw [show (((j + 1 : Nat)) : Int) = (j : Int) + 1 by omega] at this
        exact this
      case measure => simp [intOf]; omega
    · have hlt' : ¬ (j : Int) < (n : Int) := by omega
      obtain rfl : n = j := by omega
      have ht : cks.take n = cks := List.take_of_length_le (by rw [HH.out.1]; omega)
      rw [ht] at h
      have HL := Lib.hid (h.line (by unfold maxLen; omega))
      clear h ht
      go_wp2_with fail
      go_ret
      exact ⟨_, _, _, rfl, HL.out⟩
end Go.Proofs.Ytgcbcdbfeaepkaa
