/- rex.writer.goOn: the innermost open node goes on. -/
import Derived.Test.YtjnhmcgjeljcmaaWn
import Derived.Test.YtjnhmcgjeljcmaaXw
import Derived.Test.YtjnhmcgjeljcmaaWnn
namespace Go.Proofs.Ytjnhmcgjeljcmaa
open Go.RowKit

theorem row_take {w : World} {B e g n cap : Nat} {cells : List Value} (h : w.ownsRow B e 4 (.slice (some ⟨g, 0, none⟩) (n + 1) cap) (n + 1) cells) : w.ownsRow B e 4 (.slice (some ⟨g, 0, none⟩) n cap) n (cells.take (n * 4)) := by
  have hl := h.1
  refine ⟨by rw [List.length_take]; omega, ?_⟩
  rcases h.2 with ⟨h0, _⟩ | ⟨g', c', cur, hv, h1, h2, h3, h4, h5, h6⟩
  · cases h0
  · injection hv with hv1 hv2 hv3
    injection hv1 with hv1
    injection hv1 with hv1 _ _
    subst hv1 hv3
    refine .inr ⟨g, cap, cur, rfl, h1, h2, by omega, h4, h5, ?_⟩
    rw [← h6, List.take_take]
    congr 1
    omega
theorem FrsAt.front {w : World} {X : Nat → Prop} {d : Nat} {fs : List Fr} {f : Fr} {cells : List Value} (h : FrsAt w X d (fs ++ [f]) cells) : FrsAt w X d fs (cells.take (fs.length * 4)) := by
  have hl := h.1
  rw [List.length_append, List.length_singleton] at hl
  refine ⟨by rw [List.length_take]; omega, fun i f' hi => ?_⟩
  have hlt := (List.getElem?_eq_some_iff.1 hi).1
  obtain ⟨v0, v1, v2, v3, e0, e1, e2, e3, hf⟩ := h.2 i f' (by rw [List.getElem?_append_left hlt]; exact hi)
  refine ⟨v0, v1, v2, v3, ?_, ?_, ?_, ?_, hf⟩
  · rw [List.getElem?_take_of_lt (by omega)]; exact e0
  · rw [List.getElem?_take_of_lt (by omega)]; exact e1
  · rw [List.getElem?_take_of_lt (by omega)]; exact e2
  · rw [List.getElem?_take_of_lt (by omega)]; exact e3
set_option maxHeartbeats 1000000 in
set_option maxRecDepth 100000 in
theorem goOn_end (B b d : Nat) (o : List UInt8) (fs : List Fr) (f : Fr) (w : World) (h : WrAt B b d o (fs ++ [f]) w) (hB : B ≤ w.heap.size) (hend : f.next = f.kids.length) (ho : o.length + f.behind.length ≤ 35184372088832) (hfl : fs.length ≤ 1000000) :
    Calls Try.prog 37 #[.pointer (some ⟨b, 0, none⟩)] w (BPost B b d (o ++ f.behind) fs w) := by
  obtain ⟨ov, cells, hw, hown, hfs⟩ := h
  obtain ⟨v0, v1, v2, v3, c0, c1, c2, c3, A, n, c, hvs, hm, hcp, hK, hx⟩ := hfs.2 fs.length f (by simp)
  injection hvs with hv0 hvs
  injection hvs with hv1 hvs
  injection hvs with hv2 hvs
  injection hvs with hv3 _
  subst hv0 hv1 hv2 hv3
  have hn : n = f.kids.length := hK.1.symm
  obtain ⟨g, cp, rfl, hg1, hg2⟩ := hown.form (by simp)
  have k0 : w.cell? ⟨g, fs.length * 4, none⟩ = some (.int .i64 f.kind) := by rw [hown.cellAt _ (by simp)]; exact c0
  have k1 : w.cell? ⟨g, fs.length * 4 + 1, none⟩ = some (.slice A n c) := by rw [hown.cellAt _ (by simp; omega)]; exact c1
  have k2 : w.cell? ⟨g, fs.length * 4 + 2, none⟩ = some (.int .i64 (f.next : Nat)) := by rw [hown.cellAt _ (by simp; omega)]; exact c2
  have k3 : w.cell? ⟨g, fs.length * 4 + 3, none⟩ = some (.string ⟨f.behind.toArray⟩) := by rw [hown.cellAt _ (by simp; omega)]; exact c3
  obtain ⟨p, v, hp, hBb, hbk, hv⟩ := hw.split
  obtain ⟨q0, q1, q2, f0, f1, f2⟩ := blk3 hbk
  have hlw := hbk.lt
  go_enter Try.func37, Try.ntmps37
  have hwk := hw
  have hown' : w.ownsRow B 131 4 (.slice (some ⟨g, 0, none⟩) (fs.length + 1) cp) (fs.length + 1) cells := by simpa using hown
  have hw' : IsW B b (Lib.byteCells o) (.slice (some ⟨g, 0, none⟩) (fs.length + 1) cp) w := by simpa using hw
  have hb0 : Below w.heap.size w (w.alloc (.cells #[.int .i64 f.kind, .slice A f.kids.length c, .int .i64 (f.kids.length : Nat), .string ⟨f.behind.toArray⟩] 131)).drew := ⟨rfl, rfl, rfl, by show w.heap.size ≤ (w.alloc _).heap.size; simp, fun j hj => Below.heap_alloc _ _ _ hj⟩
  have HH := Lib.hid (And.intro hfs (And.intro hown' hw'))
  have hfx : (f.next : Int) = (f.kids.length : Int) := by omega
  subst hn
  rw [hend] at k2
  clear hw hown hfs hwk hw' hown'
  go_wp2
  refine wp_region_any (by kernel_rfl) ?_
  change wpAny _ _ _ _ _ _ _ (World.drew _)
  refine wpAny_take (i := 0) (v := .pointer (some ⟨b, 0, none⟩)) rfl (by kernel_rfl) (by kernel_rfl) (by kernel_rfl) (fun _ _ _ h => h) (Or.inl ⟨by rfl, fun W => by go_simp⟩) ?_
  refine wpAny_take (i := 1) (v := .pointer (some ⟨b, 0, none⟩)) rfl (by kernel_rfl) (by kernel_rfl) (by kernel_rfl) (fun _ _ _ h => h) (Or.inl ⟨by rfl, fun W => by go_simp⟩) ?_
  refine wpAny_take (i := 2) (v := .pointer (some ⟨b, 0, none⟩)) rfl (by kernel_rfl) (by kernel_rfl) (by kernel_rfl) (fun _ _ _ h => h) (Or.inl ⟨by rfl, fun W => by go_simp⟩) ?_
  refine wpAny_take (i := 3) (v := .pointer (some ⟨w.heap.size, 3, none⟩)) rfl (by kernel_rfl) (by kernel_rfl) (by kernel_rfl) (fun _ _ _ h => h) (Or.inl ⟨by rfl, fun W => by go_simp⟩) ?_
  refine wpAny_ready (rs := [4]) (by kernel_rfl) (by simp) ?_
  refine AllReady.cons rfl (fun K hK => ?_) AllReady.nil
  go_simp
  refine hK _ _ ?_
  clear hK K
  refine wpAny_ready (rs := [5]) (by kernel_rfl) (by simp) ?_
  refine AllReady.cons rfl (fun K hK => ?_) AllReady.nil
  go_simp
  go_wp2_with fail
  refine (wString B b _ (.slice (some ⟨g, 0, none⟩) (fs.length + 1) cp) ⟨f.behind.toArray⟩ _ (isw_below HH.out.2.2 hb0) (by simp [Lib.byteCells_length, ByteArray.size]; omega) (by have := hb0.size; omega)).mono ?_
  rintro e u ⟨rfl, hwu, bu, hku⟩
  refine hK _ _ ?_
  clear hK K
  refine wpAny_done (by kernel_rfl) ?_ _
  have hownu := keepsO_own (own_below HH.out.2.1 hb0) hku
  obtain ⟨pu, vu, hpu, _, hbku, hvu⟩ := hwu.split
  obtain ⟨r0, r1, r2, s0, s1, s2⟩ := blk3 hbku
  have hlu := hbku.lt
  clear q0 q1 q2 f0 f1 f2 k0 k1 k2 k3
  have hcp1 : fs.length + 1 ≤ cp := by
    rcases HH.out.2.1.2 with ⟨h0, _⟩ | ⟨g', c', cur, hv', _, _, h3, _⟩
    · cases h0
    · injection hv' with _ _ hv'
      omega
  have hcp2 : (fs.length : Int) ≤ (cp : Int) := by omega
  have hcp3 : ¬ cp = 0 := by omega
  have HU := Lib.hid (And.intro bu hvu)
  clear hku hwu bu hvu
  go_wp2
  go_end0
  have hlow : ∀ j, j < B → (u.setCell ⟨b, 2, none⟩ (.slice (some ⟨g, 0, none⟩) fs.length cp)).heap[j]? = w.heap[j]? := fun j hj => by
    rw [Below.heap_setCell _ _ _ _ (by show j ≠ b; omega), HU.out.1.block j hj, hb0.block j (by omega)]
  have hne := wr_apart hbku hownu
  refine ⟨rfl, ⟨.slice (some ⟨g, 0, none⟩) fs.length cp, cells.take (fs.length * 4), IsW.join hpu hBb (hbku.set_ 2 _) ?_, ?_, HH.out.1.front.keep hlow⟩, ?_⟩
  · have := own_setW (i := 2) (u := .slice (some ⟨g, 0, none⟩) fs.length cp) HU.out.2 (own_type HU.out.2 hbku (by decide))
    rw [bytes_app]; exact this
  · exact (row_take hownu).kept (row := some b) ⟨rfl, rfl, rfl, by simp [World.setCell], fun k _ hk => Below.heap_setCell _ _ _ _ (fun e => hk (by simp [e]))⟩ (Or.inr fun e => hne e.symm)
  · exact ((hb0.mono hB).trans HU.out.1).setCell (p := ⟨b, 2, none⟩) hBb _

theorem row_set {w : World} {B e g n cap i : Nat} {cells : List Value} {u : Value} (h : w.ownsRow B e 4 (.slice (some ⟨g, 0, none⟩) n cap) n cells) (_ : i < n * 4) : (w.setCell ⟨g, i, none⟩ u).ownsRow B e 4 (.slice (some ⟨g, 0, none⟩) n cap) n (cells.set i u) := by
  refine ⟨by rw [List.length_set]; exact h.1, ?_⟩
  rcases h.2 with ⟨h0, _⟩ | ⟨g', c', cur, hv, h1, h2, h3, h4, h5, h6⟩
  · cases h0
  · injection hv with hv1 hv2 hv3
    injection hv1 with hv1
    injection hv1 with hv1 _ _
    subst hv1 hv3
    refine .inr ⟨g, cap, cur.setIfInBounds i u, rfl, h1, Blk.set_ h2 i u, h3, h4, by simpa using h5, ?_⟩
    rw [Array.toList_setIfInBounds, List.take_set, h6]
theorem FrsAt.bump {w : World} {X : Nat → Prop} {d : Nat} {fs : List Fr} {f : Fr} {cells : List Value} (h : FrsAt w X d (fs ++ [f]) cells) (hn : f.next < f.kids.length) : FrsAt w X d (fs ++ [{ f with next := f.next + 1 }]) (cells.set (fs.length * 4 + 2) (.int .i64 ((f.next + 1 : Nat) : Int))) := by
  have hl := h.1
  refine ⟨by rw [List.length_set, hl]; simp, fun i f' hi => ?_⟩
  have hlt := (List.getElem?_eq_some_iff.1 hi).1
  rw [List.length_append, List.length_singleton] at hlt
  rw [List.length_append, List.length_singleton] at hl
  rcases Nat.lt_or_ge i fs.length with h1 | h1
  · rw [List.getElem?_append_left h1] at hi
    obtain ⟨v0, v1, v2, v3, e0, e1, e2, e3, hf⟩ := h.2 i f' (by rw [List.getElem?_append_left h1]; exact hi)
    refine ⟨v0, v1, v2, v3, ?_, ?_, ?_, ?_, hf⟩
    · rw [List.getElem?_set_ne (by omega)]; exact e0
    · rw [List.getElem?_set_ne (by omega)]; exact e1
    · rw [List.getElem?_set_ne (by omega)]; exact e2
    · rw [List.getElem?_set_ne (by omega)]; exact e3
  · obtain rfl : i = fs.length := by omega
    rw [List.getElem?_append_right (Nat.le_refl _), Nat.sub_self] at hi
    simp at hi
    subst hi
    obtain ⟨v0, v1, v2, v3, e0, e1, e2, e3, A, n, c, hv, hm, hc, hK, hx⟩ := h.2 fs.length f (by simp)
    injection hv with hv0 hv
    injection hv with hv1 hv
    injection hv with hv2 hv
    injection hv with hv3 _
    subst hv0 hv1 hv2 hv3
    refine ⟨_, _, _, _, ?_, ?_, ?_, ?_, A, n, c, rfl, hm, hc, hK, hn⟩
    · rw [List.getElem?_set_ne (by omega)]; exact e0
    · rw [List.getElem?_set_ne (by omega)]; exact e1
    · rw [List.getElem?_set_self (by omega)]
    · rw [List.getElem?_set_ne (by omega)]; exact e3
/-- The innermost open node goes on to its next kid. -/
theorem next_step {w : World} {B b d g cp : Nat} {o : List UInt8} {fs : List Fr} {f : Fr} {cells : List Value} (_ : B ≤ w.heap.size) (hg : B ≤ g) (hbg : ¬ b = g) (hn : f.next < f.kids.length) (hfs : FrsAt w (· < B) d (fs ++ [f]) cells)
    (hown : w.ownsRow B 131 4 (.slice (some ⟨g, 0, none⟩) (fs.length + 1) cp) (fs.length + 1) cells) (hw : IsW B b (Lib.byteCells o) (.slice (some ⟨g, 0, none⟩) (fs.length + 1) cp) w) :
    WrAt B b d o (fs ++ [{ f with next := f.next + 1 }]) (w.setCell ⟨g, fs.length * 4 + 2, none⟩ (.int .i64 ((f.next + 1 : Nat) : Int))) := by
  obtain ⟨p, v, hp, hBb, hbk, hv⟩ := hw.split
  refine ⟨.slice (some ⟨g, 0, none⟩) (fs.length + 1) cp, _, IsW.join hp hBb (hbk.far (by show b ≠ g; omega) _) ?_, ?_, (hfs.bump hn).keep fun j hj => Below.heap_setCell _ _ _ _ (by show j ≠ g; omega)⟩
  · refine hv.kept (row := some g) ⟨rfl, rfl, rfl, by simp [World.setCell], fun k _ hk => Below.heap_setCell _ _ _ _ (fun e => hk (by simp [e]))⟩ ?_
    have := rows_apart hv hown
    simpa [Value.ownBlock] using this
  · rw [List.length_append, List.length_singleton]
    exact row_set hown (by omega)
end Go.Proofs.Ytjnhmcgjeljcmaa
