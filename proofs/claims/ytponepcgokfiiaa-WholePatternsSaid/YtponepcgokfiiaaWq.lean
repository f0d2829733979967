/- rex.writer.goOn: the innermost open node goes on. rex.writer.goOn: a kid more. rex.writer.goOn: a Cat more. rex.writer.goOn whole; rex.Text. -/
import Derived.Test.YtponepcgokfiiaaWn
import Derived.Test.YtponepcgokfiiaaXw
import Derived.Test.YtponepcgokfiiaaWnn
import Derived.Deep.LoopGhost
namespace Go.Proofs.Ytponepcgokfiiaa
open Go.RowKit

theorem row_take {w : World} {B e g n cap : Nat} {cells : List Value} (h : w.ownsRow B e 4 (.slice (some ⟨g, 0, none⟩) (n + 1) cap) (n + 1) cells) : w.ownsRow B e 4 (.slice (some ⟨g, 0, none⟩) n cap) n (cells.take (n * 4)) := by
  have hl := h.1
  refine ⟨by rw [List.length_take]; omega, ?_⟩
  rcases h.2 with ⟨h0, _⟩ | ⟨g', c', cur, hv, h1, h2, h3, h4, h5, h6⟩
  · cases h0
  · injection hv with hv1 hv2 hv3
    injection hv1 with hv1
    injection hv1 with hv1 _ _
    subst hv1 hv3
    refine .inr ⟨g, cap, cur, rfl, h1, h2, by omega, h4, h5, ?_⟩
    rw [← h6, List.take_take]
    congr 1
    omega
theorem FrsAt.front {w : World} {X : Nat → Prop} {d : Nat} {fs : List Fr} {f : Fr} {cells : List Value} (h : FrsAt w X d (fs ++ [f]) cells) : FrsAt w X d fs (cells.take (fs.length * 4)) := by
  have hl := h.1
  rw [List.length_append, List.length_singleton] at hl
  refine ⟨by rw [List.length_take]; omega, fun i f' hi => ?_⟩
  have hlt := (List.getElem?_eq_some_iff.1 hi).1
  obtain ⟨v0, v1, v2, v3, e0, e1, e2, e3, hf⟩ := h.2 i f' (by rw [List.getElem?_append_left hlt]; exact hi)
  refine ⟨v0, v1, v2, v3, ?_, ?_, ?_, ?_, hf⟩
  · rw [List.getElem?_take_of_lt (by omega)]; exact e0
  · rw [List.getElem?_take_of_lt (by omega)]; exact e1
  · rw [List.getElem?_take_of_lt (by omega)]; exact e2
  · rw [List.getElem?_take_of_lt (by omega)]; exact e3
set_option maxHeartbeats 1000000 in
set_option maxRecDepth 100000 in
theorem goOn_end (B b d : Nat) (o : List UInt8) (fs : List Fr) (f : Fr) (w : World) (h : WrAt B b d o (fs ++ [f]) w) (hB : B ≤ w.heap.size) (hend : f.next = f.kids.length) (ho : o.length + f.behind.length ≤ 35184372088832) (hfl : fs.length ≤ 1000000) :
    Calls Try.prog 49 #[.pointer (some ⟨b, 0, none⟩)] w (BPost B b d (o ++ f.behind) fs w) := by
  obtain ⟨ov, cells, hw, hown, hfs⟩ := h
  obtain ⟨v0, v1, v2, v3, c0, c1, c2, c3, A, n, c, hvs, hm, hcp, hK, hx⟩ := hfs.2 fs.length f (by simp)
  injection hvs with hv0 hvs
  injection hvs with hv1 hvs
  injection hvs with hv2 hvs
  injection hvs with hv3 _
  subst hv0 hv1 hv2 hv3
  have hn : n = f.kids.length := hK.1.symm
  obtain ⟨g, cp, rfl, hg1, hg2⟩ := hown.form (by simp)
  have k0 : w.cell? ⟨g, fs.length * 4, none⟩ = some (.int .i64 f.kind) := by rw [hown.cellAt _ (by simp)]; exact c0
  have k1 : w.cell? ⟨g, fs.length * 4 + 1, none⟩ = some (.slice A n c) := by rw [hown.cellAt _ (by simp; omega)]; exact c1
  have k2 : w.cell? ⟨g, fs.length * 4 + 2, none⟩ = some (.int .i64 (f.next : Nat)) := by rw [hown.cellAt _ (by simp; omega)]; exact c2
  have k3 : w.cell? ⟨g, fs.length * 4 + 3, none⟩ = some (.string ⟨f.behind.toArray⟩) := by rw [hown.cellAt _ (by simp; omega)]; exact c3
  obtain ⟨p, v, hp, hBb, hbk, hv⟩ := hw.split
  obtain ⟨q0, q1, q2, f0, f1, f2⟩ := blk3 hbk
  have hlw := hbk.lt
  go_enter Try.func49, Try.ntmps49
  have hwk := hw
  have hown' : w.ownsRow B 159 4 (.slice (some ⟨g, 0, none⟩) (fs.length + 1) cp) (fs.length + 1) cells := by simpa using hown
  have hw' : IsW B b (Lib.byteCells o) (.slice (some ⟨g, 0, none⟩) (fs.length + 1) cp) w := by simpa using hw
  have hb0 : Below w.heap.size w (w.alloc (.cells #[.int .i64 f.kind, .slice A f.kids.length c, .int .i64 (f.kids.length : Nat), .string ⟨f.behind.toArray⟩] 159)).drew := ⟨rfl, rfl, rfl, by show w.heap.size ≤ (w.alloc _).heap.size; simp, fun j hj => Below.heap_alloc _ _ _ hj⟩
  have HH := Lib.hid (And.intro hfs (And.intro hown' hw'))
  have hfx : (f.next : Int) = (f.kids.length : Int) := by omega
  subst hn
  rw [hend] at k2
  clear hw hown hfs hwk hw' hown'
  go_wp2
  refine wp_region_any (by kernel_rfl) ?_
  change wpAny _ _ _ _ _ _ _ (World.drew _)
  refine wpAny_take (i := 0) (v := .pointer (some ⟨b, 0, none⟩)) rfl (by kernel_rfl) (by kernel_rfl) (by kernel_rfl) (fun _ _ _ h => h) (Or.inl ⟨by rfl, fun W => by go_simp⟩) ?_
  refine wpAny_take (i := 1) (v := .pointer (some ⟨b, 0, none⟩)) rfl (by kernel_rfl) (by kernel_rfl) (by kernel_rfl) (fun _ _ _ h => h) (Or.inl ⟨by rfl, fun W => by go_simp⟩) ?_
  refine wpAny_take (i := 2) (v := .pointer (some ⟨b, 0, none⟩)) rfl (by kernel_rfl) (by kernel_rfl) (by kernel_rfl) (fun _ _ _ h => h) (Or.inl ⟨by rfl, fun W => by go_simp⟩) ?_
  refine wpAny_take (i := 3) (v := .pointer (some ⟨w.heap.size, 3, none⟩)) rfl (by kernel_rfl) (by kernel_rfl) (by kernel_rfl) (fun _ _ _ h => h) (Or.inl ⟨by rfl, fun W => by go_simp⟩) ?_
  refine wpAny_ready (rs := [4]) (by kernel_rfl) (by simp) ?_
  refine AllReady.cons rfl (fun K hK => ?_) AllReady.nil
  go_simp
  refine hK _ _ ?_
  clear hK K
  refine wpAny_ready (rs := [5]) (by kernel_rfl) (by simp) ?_
  refine AllReady.cons rfl (fun K hK => ?_) AllReady.nil
  go_simp
  go_wp2_with fail
  refine (wString B b _ (.slice (some ⟨g, 0, none⟩) (fs.length + 1) cp) ⟨f.behind.toArray⟩ _ (isw_below HH.out.2.2 hb0) (by simp [Lib.byteCells_length, ByteArray.size]; omega) (by have := hb0.size; omega)).mono ?_
  rintro e u ⟨rfl, hwu, bu, hku⟩
  refine hK _ _ ?_
  clear hK K
  refine wpAny_done (by kernel_rfl) ?_ _
  have hownu := keepsO_own (own_below HH.out.2.1 hb0) hku
  obtain ⟨pu, vu, hpu, _, hbku, hvu⟩ := hwu.split
  obtain ⟨r0, r1, r2, s0, s1, s2⟩ := blk3 hbku
  have hlu := hbku.lt
  clear q0 q1 q2 f0 f1 f2 k0 k1 k2 k3
  have hcp1 : fs.length + 1 ≤ cp := by
    rcases HH.out.2.1.2 with ⟨h0, _⟩ | ⟨g', c', cur, hv', _, _, h3, _⟩
    · cases h0
    · injection hv' with _ _ hv'
      omega
  have hcp2 : (fs.length : Int) ≤ (cp : Int) := by omega
  have hcp3 : ¬ cp = 0 := by omega
  have HU := Lib.hid (And.intro bu hvu)
  clear hku hwu bu hvu
  go_wp2
  go_end0
  have hlow : ∀ j, j < B → (u.setCell ⟨b, 2, none⟩ (.slice (some ⟨g, 0, none⟩) fs.length cp)).heap[j]? = w.heap[j]? := fun j hj => by
    rw [Below.heap_setCell _ _ _ _ (by show j ≠ b; omega), HU.out.1.block j hj, hb0.block j (by omega)]
  have hne := wr_apart hbku hownu
  refine ⟨rfl, ⟨.slice (some ⟨g, 0, none⟩) fs.length cp, cells.take (fs.length * 4), IsW.join hpu hBb (hbku.set_ 2 _) ?_, ?_, HH.out.1.front.keep hlow⟩, ?_⟩
  · have := own_setW (i := 2) (u := .slice (some ⟨g, 0, none⟩) fs.length cp) HU.out.2 (own_type HU.out.2 hbku (by decide))
    rw [bytes_app]; exact this
  · exact (row_take hownu).kept (row := some b) ⟨rfl, rfl, rfl, by simp [World.setCell], fun k _ hk => Below.heap_setCell _ _ _ _ (fun e => hk (by simp [e]))⟩ (Or.inr fun e => hne e.symm)
  · exact ((hb0.mono hB).trans HU.out.1).setCell (p := ⟨b, 2, none⟩) hBb _

theorem row_set {w : World} {B e g n cap i : Nat} {cells : List Value} {u : Value} (h : w.ownsRow B e 4 (.slice (some ⟨g, 0, none⟩) n cap) n cells) (_ : i < n * 4) : (w.setCell ⟨g, i, none⟩ u).ownsRow B e 4 (.slice (some ⟨g, 0, none⟩) n cap) n (cells.set i u) := by
  refine ⟨by rw [List.length_set]; exact h.1, ?_⟩
  rcases h.2 with ⟨h0, _⟩ | ⟨g', c', cur, hv, h1, h2, h3, h4, h5, h6⟩
  · cases h0
  · injection hv with hv1 hv2 hv3
    injection hv1 with hv1
    injection hv1 with hv1 _ _
    subst hv1 hv3
    refine .inr ⟨g, cap, cur.setIfInBounds i u, rfl, h1, Blk.set_ h2 i u, h3, h4, by simpa using h5, ?_⟩
    rw [Array.toList_setIfInBounds, List.take_set, h6]
theorem FrsAt.bump {w : World} {X : Nat → Prop} {d : Nat} {fs : List Fr} {f : Fr} {cells : List Value} (h : FrsAt w X d (fs ++ [f]) cells) (hn : f.next < f.kids.length) : FrsAt w X d (fs ++ [{ f with next := f.next + 1 }]) (cells.set (fs.length * 4 + 2) (.int .i64 ((f.next + 1 : Nat) : Int))) := by
  have hl := h.1
  refine ⟨by rw [List.length_set, hl]; simp, fun i f' hi => ?_⟩
  have hlt := (List.getElem?_eq_some_iff.1 hi).1
  rw [List.length_append, List.length_singleton] at hlt
  rw [List.length_append, List.length_singleton] at hl
  rcases Nat.lt_or_ge i fs.length with h1 | h1
  · rw [List.getElem?_append_left h1] at hi
    obtain ⟨v0, v1, v2, v3, e0, e1, e2, e3, hf⟩ := h.2 i f' (by rw [List.getElem?_append_left h1]; exact hi)
    refine ⟨v0, v1, v2, v3, ?_, ?_, ?_, ?_, hf⟩
    · rw [List.getElem?_set_ne (by omega)]; exact e0
    · rw [List.getElem?_set_ne (by omega)]; exact e1
    · rw [List.getElem?_set_ne (by omega)]; exact e2
    · rw [List.getElem?_set_ne (by omega)]; exact e3
  · obtain rfl : i = fs.length := by omega
    rw [List.getElem?_append_right (Nat.le_refl _), Nat.sub_self] at hi
    simp at hi
    subst hi
    obtain ⟨v0, v1, v2, v3, e0, e1, e2, e3, A, n, c, hv, hm, hc, hK, hx⟩ := h.2 fs.length f (by simp)
    injection hv with hv0 hv
    injection hv with hv1 hv
    injection hv with hv2 hv
    injection hv with hv3 _
    subst hv0 hv1 hv2 hv3
    refine ⟨_, _, _, _, ?_, ?_, ?_, ?_, A, n, c, rfl, hm, hc, hK, hn⟩
    · rw [List.getElem?_set_ne (by omega)]; exact e0
    · rw [List.getElem?_set_ne (by omega)]; exact e1
    · rw [List.getElem?_set_self (by omega)]
    · rw [List.getElem?_set_ne (by omega)]; exact e3
/-- The innermost open node goes on to its next kid. -/
theorem next_step {w : World} {B b d g cp : Nat} {o : List UInt8} {fs : List Fr} {f : Fr} {cells : List Value} (_ : B ≤ w.heap.size) (hg : B ≤ g) (hbg : ¬ b = g) (hn : f.next < f.kids.length) (hfs : FrsAt w (· < B) d (fs ++ [f]) cells)
    (hown : w.ownsRow B 159 4 (.slice (some ⟨g, 0, none⟩) (fs.length + 1) cp) (fs.length + 1) cells) (hw : IsW B b (Lib.byteCells o) (.slice (some ⟨g, 0, none⟩) (fs.length + 1) cp) w) :
    WrAt B b d o (fs ++ [{ f with next := f.next + 1 }]) (w.setCell ⟨g, fs.length * 4 + 2, none⟩ (.int .i64 ((f.next + 1 : Nat) : Int))) := by
  obtain ⟨p, v, hp, hBb, hbk, hv⟩ := hw.split
  refine ⟨.slice (some ⟨g, 0, none⟩) (fs.length + 1) cp, _, IsW.join hp hBb (hbk.far (by show b ≠ g; omega) _) ?_, ?_, (hfs.bump hn).keep fun j hj => Below.heap_setCell _ _ _ _ (by show j ≠ g; omega)⟩
  · refine hv.kept (row := some g) ⟨rfl, rfl, rfl, by simp [World.setCell], fun k _ hk => Below.heap_setCell _ _ _ _ (fun e => hk (by simp [e]))⟩ ?_
    have := rows_apart hv hown
    simpa [Value.ownBlock] using this
  · rw [List.length_append, List.length_singleton]
    exact row_set hown (by omega)
end Go.Proofs.Ytponepcgokfiiaa
namespace Go.Proofs.Ytponepcgokfiiaa
open Go.RowKit

set_option maxHeartbeats 1000000 in
set_option maxRecDepth 100000 in
theorem goOn_S3_W1 (B b d : Nat) (o : List UInt8) (fs : List Fr) (f : Fr) (t : Tr) (w : World) (h : WrAt B b d o (fs ++ [f]) w) (hB : B ≤ w.heap.size) (hkid : f.kids[f.next]? = some t) (hs1 : f.kind ≠ 3) (hw1 : kindOf t = 3) (ho : o.length ≤ 1000000000) (hfl : fs.length ≤ 900000) :
    Calls Try.prog 49 #[.pointer (some ⟨b, 0, none⟩)] w (BPost B b d (o ++ (sepT f ++ nowT (within f.kind t) t)) (fs ++ [{ f with next := f.next + 1 }] ++ openT (within f.kind t) t) w) := by
  have hnl : f.next < f.kids.length := (List.getElem?_eq_some_iff.1 hkid).1
  obtain ⟨ov, cells, hw, hown, hfs⟩ := h
  obtain ⟨v0, v1, v2, v3, c0, c1, c2, c3, A, n, c, hvs, hm, hcp, hK, hx⟩ := hfs.2 fs.length f (by simp)
  injection hvs with hv0 hvs
  injection hvs with hv1 hvs
  injection hvs with hv2 hvs
  injection hvs with hv3 _
  subst hv0 hv1 hv2 hv3
  have hn : n = f.kids.length := hK.1.symm
  subst hn
  obtain ⟨bk, ok, rfl, hXk, hck⟩ := hK.2 (by omega)
  obtain ⟨z0, z1, z2, y0, y1, y2, htk⟩ := hck f.next t hkid
  obtain ⟨kk, A1, m1, g1, A2, m2, g2, rfl, rfl, rfl⟩ := htk.shape
  obtain ⟨g, cp, rfl, hg1, hg2⟩ := hown.form (by simp)
  have k0 : w.cell? ⟨g, fs.length * 4, none⟩ = some (.int .i64 f.kind) := by rw [hown.cellAt _ (by simp)]; exact c0
  have k1 : w.cell? ⟨g, fs.length * 4 + 1, none⟩ = some (.slice (some ⟨bk, ok, none⟩) f.kids.length c) := by rw [hown.cellAt _ (by simp; omega)]; exact c1
  have k2 : w.cell? ⟨g, fs.length * 4 + 2, none⟩ = some (.int .i64 (f.next : Nat)) := by rw [hown.cellAt _ (by simp; omega)]; exact c2
  have k3 : w.cell? ⟨g, fs.length * 4 + 3, none⟩ = some (.string ⟨f.behind.toArray⟩) := by rw [hown.cellAt _ (by simp; omega)]; exact c3
  obtain ⟨p, v, hp, hBb, hbk, hv⟩ := hw.split
  obtain ⟨q0, q1, q2, f0, f1, f2⟩ := blk3 hbk
  have hlw := hbk.lt
  have hown' : w.ownsRow B 159 4 (.slice (some ⟨g, 0, none⟩) (fs.length + 1) cp) (fs.length + 1) cells := by simpa using hown
  have hw' : IsW B b (Lib.byteCells o) (.slice (some ⟨g, 0, none⟩) (fs.length + 1) cp) w := by simpa using hw
  have HH := Lib.hid (And.intro hfs (And.intro hown' (And.intro hw' htk)))
  have hfx : ((f.next : Int) == (f.kids.length : Int)) = false := by simp; omega
  have hfx2 : (f.next : Int) < (f.kids.length : Int) := by omega
  have hfz : (0 : Int) ≤ (f.next : Int) := by omega
  have hfm : f.next + 1 ≤ 9223372036854775807 := by unfold maxLen at hm; omega
  have hbkg : ¬ bk = g := by omega
  have hXw : bk < w.heap.size := by omega
  have hbg : ¬ b = g := fun e => by
    have := wr_apart hbk hown
    simp [Value.ownBlock] at this
    exact this e
  have hgfz : ∀ i, w.frozen? ⟨g, i, none⟩ = false := by
    intro i
    rcases HH.out.2.1.2 with ⟨h0, _⟩ | ⟨g', c', cur, hv', _, hgg, _⟩
    · cases h0
    · injection hv' with hv' _ _
      injection hv' with hv'
      injection hv' with hv' _ _
      subst hv'
      exact Blk.frozen hgg i
  have hgf := hgfz (fs.length * 4 + 2)
  clear hw hown hfs hw' hown' htk hck hgfz
  have hkk : kindOf t = kk := by
    obtain ⟨k0, rs0, ks0⟩ := t
    exact HH.out.2.2.2.heads.1.symm
  have HS := Lib.hid (show sepT f = [] by unfold sepT; rw [if_neg (by omega)])
  have HWI := Lib.hid (show within f.kind t = true by unfold within; rw [hkk]; simp [← hkk, hw1])
  have HN := Lib.hid (show WrAt B b d o (fs ++ [{ f with next := f.next + 1 }]) (w.setCell ⟨g, fs.length * 4 + 2, none⟩ (.int .i64 ((f.next : Int) + 1))) from next_step hB hg1 hbg hnl HH.out.1 HH.out.2.1 HH.out.2.2.1)
  have HSC := Lib.hid (show (f.kind != 3) = true by simpa using hs1)
  have sa : (f.kind == 3) = false := by simpa using hs1
  have wa : (kk == 3) = true := by rw [hkk] at hw1; simpa using hw1
  clear hkk hs1
  have HBL := Lib.hid (show Below B w (w.setCell ⟨g, fs.length * 4 + 2, none⟩ (.int .i64 ((f.next : Int) + 1))) from (Below.refl B w).setCell (p := ⟨g, fs.length * 4 + 2, none⟩) hg1 _)
  have hsz : (w.setCell ⟨g, fs.length * 4 + 2, none⟩ (.int .i64 ((f.next : Int) + 1))).heap.size = w.heap.size := by simp [World.setCell]
  go_enter Try.func49, Try.ntmps49
  go_wp2_with fail
  refine (begin_any B b d o (fs ++ [{ f with next := f.next + 1 }]) _ (wr_up HN.out (by rw [hsz]; exact hB) (((Below.refl _ _).alloc (Nat.le_refl _) (.cells #[.int .i64 f.kind, .slice (some ⟨bk, ok, none⟩) f.kids.length c, .int .i64 (f.next : Nat), .string ⟨f.behind.toArray⟩] 159)).alloc (by simp) (.cells #[.int .i64 kk, .slice A1 m1 g1, .slice A2 m2 g2] 30))) (by simp [World.setCell]; omega) true t kk A1 m1 g1 A2 m2 g2 (HH.out.2.2.2.keep fun j hj => by rw [Below.heap_alloc _ _ _ (by simp [World.setCell]; omega), Below.heap_alloc _ _ _ (by rw [hsz]; omega)]; exact HBL.out.block j hj) (by first | omega | (simp; omega)) (by simp; omega)).mono ?_
  rintro e wz ⟨rfl, hz1, hz2⟩
  go_wp2
  go_end0
  refine ⟨rfl, ?_, ?_⟩
  · have e1 : o ++ (sepT f ++ nowT (within f.kind t) t) = o ++ nowT true t := by rw [HS.out, HWI.out]; simp
    rw [HWI.out, HS.out]
    simpa using hz1
  · exact ((HBL.out.alloc (by rw [hsz]; omega) (.cells #[.int .i64 f.kind, .slice (some ⟨bk, ok, none⟩) f.kids.length c, .int .i64 (f.next : Nat), .string ⟨f.behind.toArray⟩] 159)).alloc (by simp [World.setCell]; omega) (.cells #[.int .i64 kk, .slice A1 m1 g1, .slice A2 m2 g2] 30)).trans hz2
set_option maxHeartbeats 1000000 in
set_option maxRecDepth 100000 in
theorem goOn_S3_W4 (B b d : Nat) (o : List UInt8) (fs : List Fr) (f : Fr) (t : Tr) (w : World) (h : WrAt B b d o (fs ++ [f]) w) (hB : B ≤ w.heap.size) (hkid : f.kids[f.next]? = some t) (hs1 : f.kind ≠ 3) (hw1 : kindOf t ≠ 3) (hw2 : kindOf t ≠ 2) (ho : o.length ≤ 1000000000) (hfl : fs.length ≤ 900000) :
    Calls Try.prog 49 #[.pointer (some ⟨b, 0, none⟩)] w (BPost B b d (o ++ (sepT f ++ nowT (within f.kind t) t)) (fs ++ [{ f with next := f.next + 1 }] ++ openT (within f.kind t) t) w) := by
  have hnl : f.next < f.kids.length := (List.getElem?_eq_some_iff.1 hkid).1
  obtain ⟨ov, cells, hw, hown, hfs⟩ := h
  obtain ⟨v0, v1, v2, v3, c0, c1, c2, c3, A, n, c, hvs, hm, hcp, hK, hx⟩ := hfs.2 fs.length f (by simp)
  injection hvs with hv0 hvs
  injection hvs with hv1 hvs
  injection hvs with hv2 hvs
  injection hvs with hv3 _
  subst hv0 hv1 hv2 hv3
  have hn : n = f.kids.length := hK.1.symm
  subst hn
  obtain ⟨bk, ok, rfl, hXk, hck⟩ := hK.2 (by omega)
  obtain ⟨z0, z1, z2, y0, y1, y2, htk⟩ := hck f.next t hkid
  obtain ⟨kk, A1, m1, g1, A2, m2, g2, rfl, rfl, rfl⟩ := htk.shape
  obtain ⟨g, cp, rfl, hg1, hg2⟩ := hown.form (by simp)
  have k0 : w.cell? ⟨g, fs.length * 4, none⟩ = some (.int .i64 f.kind) := by rw [hown.cellAt _ (by simp)]; exact c0
  have k1 : w.cell? ⟨g, fs.length * 4 + 1, none⟩ = some (.slice (some ⟨bk, ok, none⟩) f.kids.length c) := by rw [hown.cellAt _ (by simp; omega)]; exact c1
  have k2 : w.cell? ⟨g, fs.length * 4 + 2, none⟩ = some (.int .i64 (f.next : Nat)) := by rw [hown.cellAt _ (by simp; omega)]; exact c2
  have k3 : w.cell? ⟨g, fs.length * 4 + 3, none⟩ = some (.string ⟨f.behind.toArray⟩) := by rw [hown.cellAt _ (by simp; omega)]; exact c3
  obtain ⟨p, v, hp, hBb, hbk, hv⟩ := hw.split
  obtain ⟨q0, q1, q2, f0, f1, f2⟩ := blk3 hbk
  have hlw := hbk.lt
  have hown' : w.ownsRow B 159 4 (.slice (some ⟨g, 0, none⟩) (fs.length + 1) cp) (fs.length + 1) cells := by simpa using hown
  have hw' : IsW B b (Lib.byteCells o) (.slice (some ⟨g, 0, none⟩) (fs.length + 1) cp) w := by simpa using hw
  have HH := Lib.hid (And.intro hfs (And.intro hown' (And.intro hw' htk)))
  have hfx : ((f.next : Int) == (f.kids.length : Int)) = false := by simp; omega
  have hfx2 : (f.next : Int) < (f.kids.length : Int) := by omega
  have hfz : (0 : Int) ≤ (f.next : Int) := by omega
  have hfm : f.next + 1 ≤ 9223372036854775807 := by unfold maxLen at hm; omega
  have hbkg : ¬ bk = g := by omega
  have hXw : bk < w.heap.size := by omega
  have hbg : ¬ b = g := fun e => by
    have := wr_apart hbk hown
    simp [Value.ownBlock] at this
    exact this e
  have hgfz : ∀ i, w.frozen? ⟨g, i, none⟩ = false := by
    intro i
    rcases HH.out.2.1.2 with ⟨h0, _⟩ | ⟨g', c', cur, hv', _, hgg, _⟩
    · cases h0
    · injection hv' with hv' _ _
      injection hv' with hv'
      injection hv' with hv' _ _
      subst hv'
      exact Blk.frozen hgg i
  have hgf := hgfz (fs.length * 4 + 2)
  clear hw hown hfs hw' hown' htk hck hgfz
  have hkk : kindOf t = kk := by
    obtain ⟨k0, rs0, ks0⟩ := t
    exact HH.out.2.2.2.heads.1.symm
  have HS := Lib.hid (show sepT f = [] by unfold sepT; rw [if_neg (by omega)])
  have HWI := Lib.hid (show within f.kind t = false by unfold within; rw [hkk]; simp [← hkk, hw1, hw2])
  have HN := Lib.hid (show WrAt B b d o (fs ++ [{ f with next := f.next + 1 }]) (w.setCell ⟨g, fs.length * 4 + 2, none⟩ (.int .i64 ((f.next : Int) + 1))) from next_step hB hg1 hbg hnl HH.out.1 HH.out.2.1 HH.out.2.2.1)
  have HSC := Lib.hid (show (f.kind != 3) = true by simpa using hs1)
  have sa : (f.kind == 3) = false := by simpa using hs1
  have wa : (kk == 3) = false := by rw [hkk] at hw1; simpa using hw1
  have wb : (kk == 2) = false := by rw [hkk] at hw2; simpa using hw2
  clear hkk hs1
  have HBL := Lib.hid (show Below B w (w.setCell ⟨g, fs.length * 4 + 2, none⟩ (.int .i64 ((f.next : Int) + 1))) from (Below.refl B w).setCell (p := ⟨g, fs.length * 4 + 2, none⟩) hg1 _)
  have hsz : (w.setCell ⟨g, fs.length * 4 + 2, none⟩ (.int .i64 ((f.next : Int) + 1))).heap.size = w.heap.size := by simp [World.setCell]
  go_enter Try.func49, Try.ntmps49
  go_wp2_with fail
  refine (begin_any B b d o (fs ++ [{ f with next := f.next + 1 }]) _ (wr_up HN.out (by rw [hsz]; exact hB) (((Below.refl _ _).alloc (Nat.le_refl _) (.cells #[.int .i64 f.kind, .slice (some ⟨bk, ok, none⟩) f.kids.length c, .int .i64 (f.next : Nat), .string ⟨f.behind.toArray⟩] 159)).alloc (by simp) (.cells #[.int .i64 kk, .slice A1 m1 g1, .slice A2 m2 g2] 30))) (by simp [World.setCell]; omega) false t kk A1 m1 g1 A2 m2 g2 (HH.out.2.2.2.keep fun j hj => by rw [Below.heap_alloc _ _ _ (by simp [World.setCell]; omega), Below.heap_alloc _ _ _ (by rw [hsz]; omega)]; exact HBL.out.block j hj) (by first | omega | (simp; omega)) (by simp; omega)).mono ?_
  rintro e wz ⟨rfl, hz1, hz2⟩
  go_wp2
  go_end0
  refine ⟨rfl, ?_, ?_⟩
  · have e1 : o ++ (sepT f ++ nowT (within f.kind t) t) = o ++ nowT false t := by rw [HS.out, HWI.out]; simp
    rw [HWI.out, HS.out]
    simpa using hz1
  · exact ((HBL.out.alloc (by rw [hsz]; omega) (.cells #[.int .i64 f.kind, .slice (some ⟨bk, ok, none⟩) f.kids.length c, .int .i64 (f.next : Nat), .string ⟨f.behind.toArray⟩] 159)).alloc (by simp [World.setCell]; omega) (.cells #[.int .i64 kk, .slice A1 m1 g1, .slice A2 m2 g2] 30)).trans hz2
set_option maxHeartbeats 1000000 in
set_option maxRecDepth 100000 in
theorem goOn_S2_W1 (B b d : Nat) (o : List UInt8) (fs : List Fr) (f : Fr) (t : Tr) (w : World) (h : WrAt B b d o (fs ++ [f]) w) (hB : B ≤ w.heap.size) (hkid : f.kids[f.next]? = some t) (hs1 : f.kind = 3) (hs2 : f.next = 0) (hw1 : kindOf t = 3) (ho : o.length ≤ 1000000000) (hfl : fs.length ≤ 900000) :
    Calls Try.prog 49 #[.pointer (some ⟨b, 0, none⟩)] w (BPost B b d (o ++ (sepT f ++ nowT (within f.kind t) t)) (fs ++ [{ f with next := f.next + 1 }] ++ openT (within f.kind t) t) w) := by
  have hnl : f.next < f.kids.length := (List.getElem?_eq_some_iff.1 hkid).1
  obtain ⟨ov, cells, hw, hown, hfs⟩ := h
  obtain ⟨v0, v1, v2, v3, c0, c1, c2, c3, A, n, c, hvs, hm, hcp, hK, hx⟩ := hfs.2 fs.length f (by simp)
  injection hvs with hv0 hvs
  injection hvs with hv1 hvs
  injection hvs with hv2 hvs
  injection hvs with hv3 _
  subst hv0 hv1 hv2 hv3
  have hn : n = f.kids.length := hK.1.symm
  subst hn
  obtain ⟨bk, ok, rfl, hXk, hck⟩ := hK.2 (by omega)
  obtain ⟨z0, z1, z2, y0, y1, y2, htk⟩ := hck f.next t hkid
  obtain ⟨kk, A1, m1, g1, A2, m2, g2, rfl, rfl, rfl⟩ := htk.shape
  obtain ⟨g, cp, rfl, hg1, hg2⟩ := hown.form (by simp)
  have k0 : w.cell? ⟨g, fs.length * 4, none⟩ = some (.int .i64 f.kind) := by rw [hown.cellAt _ (by simp)]; exact c0
  have k1 : w.cell? ⟨g, fs.length * 4 + 1, none⟩ = some (.slice (some ⟨bk, ok, none⟩) f.kids.length c) := by rw [hown.cellAt _ (by simp; omega)]; exact c1
  have k2 : w.cell? ⟨g, fs.length * 4 + 2, none⟩ = some (.int .i64 (f.next : Nat)) := by rw [hown.cellAt _ (by simp; omega)]; exact c2
  have k3 : w.cell? ⟨g, fs.length * 4 + 3, none⟩ = some (.string ⟨f.behind.toArray⟩) := by rw [hown.cellAt _ (by simp; omega)]; exact c3
  obtain ⟨p, v, hp, hBb, hbk, hv⟩ := hw.split
  obtain ⟨q0, q1, q2, f0, f1, f2⟩ := blk3 hbk
  have hlw := hbk.lt
  have hown' : w.ownsRow B 159 4 (.slice (some ⟨g, 0, none⟩) (fs.length + 1) cp) (fs.length + 1) cells := by simpa using hown
  have hw' : IsW B b (Lib.byteCells o) (.slice (some ⟨g, 0, none⟩) (fs.length + 1) cp) w := by simpa using hw
  have HH := Lib.hid (And.intro hfs (And.intro hown' (And.intro hw' htk)))
  have hfx : ((f.next : Int) == (f.kids.length : Int)) = false := by simp; omega
  have hfx2 : (f.next : Int) < (f.kids.length : Int) := by omega
  have hfz : (0 : Int) ≤ (f.next : Int) := by omega
  have hfm : f.next + 1 ≤ 9223372036854775807 := by unfold maxLen at hm; omega
  have hbkg : ¬ bk = g := by omega
  have hXw : bk < w.heap.size := by omega
  have hbg : ¬ b = g := fun e => by
    have := wr_apart hbk hown
    simp [Value.ownBlock] at this
    exact this e
  have hgfz : ∀ i, w.frozen? ⟨g, i, none⟩ = false := by
    intro i
    rcases HH.out.2.1.2 with ⟨h0, _⟩ | ⟨g', c', cur, hv', _, hgg, _⟩
    · cases h0
    · injection hv' with hv' _ _
      injection hv' with hv'
      injection hv' with hv' _ _
      subst hv'
      exact Blk.frozen hgg i
  have hgf := hgfz (fs.length * 4 + 2)
  clear hw hown hfs hw' hown' htk hck hgfz
  have hkk : kindOf t = kk := by
    obtain ⟨k0, rs0, ks0⟩ := t
    exact HH.out.2.2.2.heads.1.symm
  have HS := Lib.hid (show sepT f = [] by unfold sepT; rw [if_neg (by omega)])
  have HWI := Lib.hid (show within f.kind t = true by unfold within; rw [hkk]; simp [← hkk, hw1])
  have HN := Lib.hid (show WrAt B b d o (fs ++ [{ f with next := f.next + 1 }]) (w.setCell ⟨g, fs.length * 4 + 2, none⟩ (.int .i64 ((f.next : Int) + 1))) from next_step hB hg1 hbg hnl HH.out.1 HH.out.2.1 HH.out.2.2.1)
  have HSC := Lib.hid (show (f.kind != 3) = false by simp [hs1])
  have sa : (f.kind == 3) = true := by simpa using hs1
  have sb : ¬ (0 : Int) < (f.next : Int) := by omega
  have wa : (kk == 3) = true := by rw [hkk] at hw1; simpa using hw1
  clear hkk hs1 hs2
  have HBL := Lib.hid (show Below B w (w.setCell ⟨g, fs.length * 4 + 2, none⟩ (.int .i64 ((f.next : Int) + 1))) from (Below.refl B w).setCell (p := ⟨g, fs.length * 4 + 2, none⟩) hg1 _)
  have hsz : (w.setCell ⟨g, fs.length * 4 + 2, none⟩ (.int .i64 ((f.next : Int) + 1))).heap.size = w.heap.size := by simp [World.setCell]
  go_enter Try.func49, Try.ntmps49
  go_wp2_with fail
  refine (begin_any B b d o (fs ++ [{ f with next := f.next + 1 }]) _ (wr_up HN.out (by rw [hsz]; exact hB) (((Below.refl _ _).alloc (Nat.le_refl _) (.cells #[.int .i64 f.kind, .slice (some ⟨bk, ok, none⟩) f.kids.length c, .int .i64 (f.next : Nat), .string ⟨f.behind.toArray⟩] 159)).alloc (by simp) (.cells #[.int .i64 kk, .slice A1 m1 g1, .slice A2 m2 g2] 30))) (by simp [World.setCell]; omega) true t kk A1 m1 g1 A2 m2 g2 (HH.out.2.2.2.keep fun j hj => by rw [Below.heap_alloc _ _ _ (by simp [World.setCell]; omega), Below.heap_alloc _ _ _ (by rw [hsz]; omega)]; exact HBL.out.block j hj) (by first | omega | (simp; omega)) (by simp; omega)).mono ?_
  rintro e wz ⟨rfl, hz1, hz2⟩
  go_wp2
  go_end0
  refine ⟨rfl, ?_, ?_⟩
  · have e1 : o ++ (sepT f ++ nowT (within f.kind t) t) = o ++ nowT true t := by rw [HS.out, HWI.out]; simp
    rw [HWI.out, HS.out]
    simpa using hz1
  · exact ((HBL.out.alloc (by rw [hsz]; omega) (.cells #[.int .i64 f.kind, .slice (some ⟨bk, ok, none⟩) f.kids.length c, .int .i64 (f.next : Nat), .string ⟨f.behind.toArray⟩] 159)).alloc (by simp [World.setCell]; omega) (.cells #[.int .i64 kk, .slice A1 m1 g1, .slice A2 m2 g2] 30)).trans hz2
set_option maxHeartbeats 1000000 in
set_option maxRecDepth 100000 in
theorem goOn_S2_W4 (B b d : Nat) (o : List UInt8) (fs : List Fr) (f : Fr) (t : Tr) (w : World) (h : WrAt B b d o (fs ++ [f]) w) (hB : B ≤ w.heap.size) (hkid : f.kids[f.next]? = some t) (hs1 : f.kind = 3) (hs2 : f.next = 0) (hw1 : kindOf t ≠ 3) (hw2 : kindOf t ≠ 2) (ho : o.length ≤ 1000000000) (hfl : fs.length ≤ 900000) :
    Calls Try.prog 49 #[.pointer (some ⟨b, 0, none⟩)] w (BPost B b d (o ++ (sepT f ++ nowT (within f.kind t) t)) (fs ++ [{ f with next := f.next + 1 }] ++ openT (within f.kind t) t) w) := by
  have hnl : f.next < f.kids.length := (List.getElem?_eq_some_iff.1 hkid).1
  obtain ⟨ov, cells, hw, hown, hfs⟩ := h
  obtain ⟨v0, v1, v2, v3, c0, c1, c2, c3, A, n, c, hvs, hm, hcp, hK, hx⟩ := hfs.2 fs.length f (by simp)
  injection hvs with hv0 hvs
  injection hvs with hv1 hvs
  injection hvs with hv2 hvs
  injection hvs with hv3 _
  subst hv0 hv1 hv2 hv3
  have hn : n = f.kids.length := hK.1.symm
  subst hn
  obtain ⟨bk, ok, rfl, hXk, hck⟩ := hK.2 (by omega)
  obtain ⟨z0, z1, z2, y0, y1, y2, htk⟩ := hck f.next t hkid
  obtain ⟨kk, A1, m1, g1, A2, m2, g2, rfl, rfl, rfl⟩ := htk.shape
  obtain ⟨g, cp, rfl, hg1, hg2⟩ := hown.form (by simp)
  have k0 : w.cell? ⟨g, fs.length * 4, none⟩ = some (.int .i64 f.kind) := by rw [hown.cellAt _ (by simp)]; exact c0
  have k1 : w.cell? ⟨g, fs.length * 4 + 1, none⟩ = some (.slice (some ⟨bk, ok, none⟩) f.kids.length c) := by rw [hown.cellAt _ (by simp; omega)]; exact c1
  have k2 : w.cell? ⟨g, fs.length * 4 + 2, none⟩ = some (.int .i64 (f.next : Nat)) := by rw [hown.cellAt _ (by simp; omega)]; exact c2
  have k3 : w.cell? ⟨g, fs.length * 4 + 3, none⟩ = some (.string ⟨f.behind.toArray⟩) := by rw [hown.cellAt _ (by simp; omega)]; exact c3
  obtain ⟨p, v, hp, hBb, hbk, hv⟩ := hw.split
  obtain ⟨q0, q1, q2, f0, f1, f2⟩ := blk3 hbk
  have hlw := hbk.lt
  have hown' : w.ownsRow B 159 4 (.slice (some ⟨g, 0, none⟩) (fs.length + 1) cp) (fs.length + 1) cells := by simpa using hown
  have hw' : IsW B b (Lib.byteCells o) (.slice (some ⟨g, 0, none⟩) (fs.length + 1) cp) w := by simpa using hw
  have HH := Lib.hid (And.intro hfs (And.intro hown' (And.intro hw' htk)))
  have hfx : ((f.next : Int) == (f.kids.length : Int)) = false := by simp; omega
  have hfx2 : (f.next : Int) < (f.kids.length : Int) := by omega
  have hfz : (0 : Int) ≤ (f.next : Int) := by omega
  have hfm : f.next + 1 ≤ 9223372036854775807 := by unfold maxLen at hm; omega
  have hbkg : ¬ bk = g := by omega
  have hXw : bk < w.heap.size := by omega
  have hbg : ¬ b = g := fun e => by
    have := wr_apart hbk hown
    simp [Value.ownBlock] at this
    exact this e
  have hgfz : ∀ i, w.frozen? ⟨g, i, none⟩ = false := by
    intro i
    rcases HH.out.2.1.2 with ⟨h0, _⟩ | ⟨g', c', cur, hv', _, hgg, _⟩
    · cases h0
    · injection hv' with hv' _ _
      injection hv' with hv'
      injection hv' with hv' _ _
      subst hv'
      exact Blk.frozen hgg i
  have hgf := hgfz (fs.length * 4 + 2)
  clear hw hown hfs hw' hown' htk hck hgfz
  have hkk : kindOf t = kk := by
    obtain ⟨k0, rs0, ks0⟩ := t
    exact HH.out.2.2.2.heads.1.symm
  have HS := Lib.hid (show sepT f = [] by unfold sepT; rw [if_neg (by omega)])
  have HWI := Lib.hid (show within f.kind t = false by unfold within; rw [hkk]; simp [← hkk, hw1, hw2])
  have HN := Lib.hid (show WrAt B b d o (fs ++ [{ f with next := f.next + 1 }]) (w.setCell ⟨g, fs.length * 4 + 2, none⟩ (.int .i64 ((f.next : Int) + 1))) from next_step hB hg1 hbg hnl HH.out.1 HH.out.2.1 HH.out.2.2.1)
  have HSC := Lib.hid (show (f.kind != 3) = false by simp [hs1])
  have sa : (f.kind == 3) = true := by simpa using hs1
  have sb : ¬ (0 : Int) < (f.next : Int) := by omega
  have wa : (kk == 3) = false := by rw [hkk] at hw1; simpa using hw1
  have wb : (kk == 2) = false := by rw [hkk] at hw2; simpa using hw2
  clear hkk hs1 hs2
  have HBL := Lib.hid (show Below B w (w.setCell ⟨g, fs.length * 4 + 2, none⟩ (.int .i64 ((f.next : Int) + 1))) from (Below.refl B w).setCell (p := ⟨g, fs.length * 4 + 2, none⟩) hg1 _)
  have hsz : (w.setCell ⟨g, fs.length * 4 + 2, none⟩ (.int .i64 ((f.next : Int) + 1))).heap.size = w.heap.size := by simp [World.setCell]
  go_enter Try.func49, Try.ntmps49
  go_wp2_with fail
  refine (begin_any B b d o (fs ++ [{ f with next := f.next + 1 }]) _ (wr_up HN.out (by rw [hsz]; exact hB) (((Below.refl _ _).alloc (Nat.le_refl _) (.cells #[.int .i64 f.kind, .slice (some ⟨bk, ok, none⟩) f.kids.length c, .int .i64 (f.next : Nat), .string ⟨f.behind.toArray⟩] 159)).alloc (by simp) (.cells #[.int .i64 kk, .slice A1 m1 g1, .slice A2 m2 g2] 30))) (by simp [World.setCell]; omega) false t kk A1 m1 g1 A2 m2 g2 (HH.out.2.2.2.keep fun j hj => by rw [Below.heap_alloc _ _ _ (by simp [World.setCell]; omega), Below.heap_alloc _ _ _ (by rw [hsz]; omega)]; exact HBL.out.block j hj) (by first | omega | (simp; omega)) (by simp; omega)).mono ?_
  rintro e wz ⟨rfl, hz1, hz2⟩
  go_wp2
  go_end0
  refine ⟨rfl, ?_, ?_⟩
  · have e1 : o ++ (sepT f ++ nowT (within f.kind t) t) = o ++ nowT false t := by rw [HS.out, HWI.out]; simp
    rw [HWI.out, HS.out]
    simpa using hz1
  · exact ((HBL.out.alloc (by rw [hsz]; omega) (.cells #[.int .i64 f.kind, .slice (some ⟨bk, ok, none⟩) f.kids.length c, .int .i64 (f.next : Nat), .string ⟨f.behind.toArray⟩] 159)).alloc (by simp [World.setCell]; omega) (.cells #[.int .i64 kk, .slice A1 m1 g1, .slice A2 m2 g2] 30)).trans hz2
set_option maxHeartbeats 1000000 in
set_option maxRecDepth 100000 in
theorem goOn_S1_W1 (B b d : Nat) (o : List UInt8) (fs : List Fr) (f : Fr) (t : Tr) (w : World) (h : WrAt B b d o (fs ++ [f]) w) (hB : B ≤ w.heap.size) (hkid : f.kids[f.next]? = some t) (hs1 : f.kind = 3) (hs2 : 0 < f.next) (hw1 : kindOf t = 3) (ho : o.length ≤ 1000000000) (hfl : fs.length ≤ 900000) :
    Calls Try.prog 49 #[.pointer (some ⟨b, 0, none⟩)] w (BPost B b d (o ++ (sepT f ++ nowT (within f.kind t) t)) (fs ++ [{ f with next := f.next + 1 }] ++ openT (within f.kind t) t) w) := by
  have hnl : f.next < f.kids.length := (List.getElem?_eq_some_iff.1 hkid).1
  obtain ⟨ov, cells, hw, hown, hfs⟩ := h
  obtain ⟨v0, v1, v2, v3, c0, c1, c2, c3, A, n, c, hvs, hm, hcp, hK, hx⟩ := hfs.2 fs.length f (by simp)
  injection hvs with hv0 hvs
  injection hvs with hv1 hvs
  injection hvs with hv2 hvs
  injection hvs with hv3 _
  subst hv0 hv1 hv2 hv3
  have hn : n = f.kids.length := hK.1.symm
  subst hn
  obtain ⟨bk, ok, rfl, hXk, hck⟩ := hK.2 (by omega)
  obtain ⟨z0, z1, z2, y0, y1, y2, htk⟩ := hck f.next t hkid
  obtain ⟨kk, A1, m1, g1, A2, m2, g2, rfl, rfl, rfl⟩ := htk.shape
  obtain ⟨g, cp, rfl, hg1, hg2⟩ := hown.form (by simp)
  have k0 : w.cell? ⟨g, fs.length * 4, none⟩ = some (.int .i64 f.kind) := by rw [hown.cellAt _ (by simp)]; exact c0
  have k1 : w.cell? ⟨g, fs.length * 4 + 1, none⟩ = some (.slice (some ⟨bk, ok, none⟩) f.kids.length c) := by rw [hown.cellAt _ (by simp; omega)]; exact c1
  have k2 : w.cell? ⟨g, fs.length * 4 + 2, none⟩ = some (.int .i64 (f.next : Nat)) := by rw [hown.cellAt _ (by simp; omega)]; exact c2
  have k3 : w.cell? ⟨g, fs.length * 4 + 3, none⟩ = some (.string ⟨f.behind.toArray⟩) := by rw [hown.cellAt _ (by simp; omega)]; exact c3
  obtain ⟨p, v, hp, hBb, hbk, hv⟩ := hw.split
  obtain ⟨q0, q1, q2, f0, f1, f2⟩ := blk3 hbk
  have hlw := hbk.lt
  have hown' : w.ownsRow B 159 4 (.slice (some ⟨g, 0, none⟩) (fs.length + 1) cp) (fs.length + 1) cells := by simpa using hown
  have hw' : IsW B b (Lib.byteCells o) (.slice (some ⟨g, 0, none⟩) (fs.length + 1) cp) w := by simpa using hw
  have HH := Lib.hid (And.intro hfs (And.intro hown' (And.intro hw' htk)))
  have hfx : ((f.next : Int) == (f.kids.length : Int)) = false := by simp; omega
  have hfx2 : (f.next : Int) < (f.kids.length : Int) := by omega
  have hfz : (0 : Int) ≤ (f.next : Int) := by omega
  have hfm : f.next + 1 ≤ 9223372036854775807 := by unfold maxLen at hm; omega
  have hbkg : ¬ bk = g := by omega
  have hXw : bk < w.heap.size := by omega
  have hbg : ¬ b = g := fun e => by
    have := wr_apart hbk hown
    simp [Value.ownBlock] at this
    exact this e
  have hgfz : ∀ i, w.frozen? ⟨g, i, none⟩ = false := by
    intro i
    rcases HH.out.2.1.2 with ⟨h0, _⟩ | ⟨g', c', cur, hv', _, hgg, _⟩
    · cases h0
    · injection hv' with hv' _ _
      injection hv' with hv'
      injection hv' with hv' _ _
      subst hv'
      exact Blk.frozen hgg i
  have hgf := hgfz (fs.length * 4 + 2)
  clear hw hown hfs hw' hown' htk hck hgfz
  have hkk : kindOf t = kk := by
    obtain ⟨k0, rs0, ks0⟩ := t
    exact HH.out.2.2.2.heads.1.symm
  have HS := Lib.hid (show sepT f = [124] by unfold sepT; rw [if_pos ⟨hs1, hs2⟩])
  have HWI := Lib.hid (show within f.kind t = true by unfold within; rw [hkk]; simp [← hkk, hw1])
  have HN := Lib.hid (show WrAt B b d o (fs ++ [{ f with next := f.next + 1 }]) (w.setCell ⟨g, fs.length * 4 + 2, none⟩ (.int .i64 ((f.next : Int) + 1))) from next_step hB hg1 hbg hnl HH.out.1 HH.out.2.1 HH.out.2.2.1)
  have HSC := Lib.hid (show (f.kind != 3) = false by simp [hs1])
  have sa : (f.kind == 3) = true := by simpa using hs1
  have sb : (0 : Int) < (f.next : Int) := by omega
  have wa : (kk == 3) = true := by rw [hkk] at hw1; simpa using hw1
  clear hkk hs1 hs2
  have HBL := Lib.hid (show Below B w (w.setCell ⟨g, fs.length * 4 + 2, none⟩ (.int .i64 ((f.next : Int) + 1))) from (Below.refl B w).setCell (p := ⟨g, fs.length * 4 + 2, none⟩) hg1 _)
  have hsz : (w.setCell ⟨g, fs.length * 4 + 2, none⟩ (.int .i64 ((f.next : Int) + 1))).heap.size = w.heap.size := by simp [World.setCell]
  go_enter Try.func49, Try.ntmps49
  go_wp2_with fail
  have hup0 : Below (w.setCell ⟨g, fs.length * 4 + 2, none⟩ (.int .i64 ((f.next : Int) + 1))).heap.size (w.setCell ⟨g, fs.length * 4 + 2, none⟩ (.int .i64 ((f.next : Int) + 1))) ((w.setCell ⟨g, fs.length * 4 + 2, none⟩ (.int .i64 ((f.next : Int) + 1))).alloc (.cells #[.int .i64 f.kind, .slice (some ⟨bk, ok, none⟩) f.kids.length c, .int .i64 (f.next : Nat), .string ⟨f.behind.toArray⟩] 159)) := (Below.refl _ _).alloc (Nat.le_refl _) _
  have HN1 := wr_up HN.out (by rw [hsz]; exact hB) hup0
  obtain ⟨ov1, cells1, hw1, hown1, hfs1⟩ := HN1
  refine (wByte B b _ ov1 124 _ hw1 (by simp [Lib.byteCells_length]; omega) (by simp [World.setCell]; omega)).mono ?_
  rintro e u ⟨rfl, hwu, bu, hku⟩
  have hbO : Blk u w.heap.size 159 #[.int .i64 f.kind, .slice (some ⟨bk, ok, none⟩) f.kids.length c, .int .i64 (f.next : Nat), .string ⟨f.behind.toArray⟩] := hku _ _ _ (by decide) (by decide) (by have := Blk.new (w.setCell ⟨g, fs.length * 4 + 2, none⟩ (.int .i64 ((f.next : Int) + 1))) 159 #[.int .i64 f.kind, .slice (some ⟨bk, ok, none⟩) f.kids.length c, .int .i64 (f.next : Nat), .string ⟨f.behind.toArray⟩]; rw [hsz] at this; exact this)
  have o0 := hbO.cell 0
  have o1 := hbO.cell 1
  have o2 := hbO.cell 2
  simp only [List.getElem?_toArray, List.getElem?_cons_zero, List.getElem?_cons_succ] at o0 o1 o2
  have hlO := hbO.lt
  have hlow : ∀ j, j < B → u.heap[j]? = w.heap[j]? := fun j hj => by rw [bu.block j hj, hup0.block j (by rw [hsz]; omega)]; exact HBL.out.block j hj
  have x0 : u.cell? ⟨bk, ok + f.next * 3, none⟩ = some (.int .i64 kk) := by rw [World.cell?_of_block (a := ⟨bk, ok + f.next * 3, none⟩) (hlow bk hXk)]; exact y0
  have x1 : u.cell? ⟨bk, ok + f.next * 3 + 1, none⟩ = some (.slice A1 m1 g1) := by rw [World.cell?_of_block (a := ⟨bk, ok + f.next * 3 + 1, none⟩) (hlow bk hXk)]; exact y1
  have x2 : u.cell? ⟨bk, ok + f.next * 3 + 2, none⟩ = some (.slice A2 m2 g2) := by rw [World.cell?_of_block (a := ⟨bk, ok + f.next * 3 + 2, none⟩) (hlow bk hXk)]; exact y2
  have HNU := Lib.hid (show WrAt B b d (o ++ [124]) (fs ++ [{ f with next := f.next + 1 }]) u from ⟨ov1, cells1, by rw [bytes_app]; exact hwu, keepsO_own hown1 hku, hfs1.keep fun j hj => bu.block j hj⟩)
  have HTU := Lib.hid (HH.out.2.2.2.keep (w' := u) hlow)
  have hBu : B ≤ u.heap.size := by omega
  have HBU := Lib.hid (show Below B w u from (HBL.out.trans (hup0.mono (by rw [hsz]; exact hB))).trans bu)
  clear hw1 hown1 hfs1 hwu hku bu hup0 k0 k1 k2 k3 q0 q1 q2 y0 y1 y2
  go_wp2_with fail
  refine (begin_any B b d (o ++ [124]) (fs ++ [{ f with next := f.next + 1 }]) _ (wr_up HNU.out hBu ((Below.refl _ _).alloc (Nat.le_refl _) (.cells #[.int .i64 kk, .slice A1 m1 g1, .slice A2 m2 g2] 30))) (by simp; omega) true t kk A1 m1 g1 A2 m2 g2 (HTU.out.keep fun j hj => Below.heap_alloc _ _ _ (by omega)) (by first | omega | (simp; omega)) (by simp; omega)).mono ?_
  rintro e wz ⟨rfl, hz1, hz2⟩
  go_wp2
  go_end0
  refine ⟨rfl, ?_, ?_⟩
  · have e1 : o ++ (sepT f ++ nowT (within f.kind t) t) = (o ++ [124]) ++ nowT true t := by rw [HS.out, HWI.out]; simp
    rw [HWI.out, HS.out]
    simpa using hz1
  · exact (HBU.out.alloc hBu (.cells #[.int .i64 kk, .slice A1 m1 g1, .slice A2 m2 g2] 30)).trans hz2
set_option maxHeartbeats 1000000 in
set_option maxRecDepth 100000 in
theorem goOn_S1_W4 (B b d : Nat) (o : List UInt8) (fs : List Fr) (f : Fr) (t : Tr) (w : World) (h : WrAt B b d o (fs ++ [f]) w) (hB : B ≤ w.heap.size) (hkid : f.kids[f.next]? = some t) (hs1 : f.kind = 3) (hs2 : 0 < f.next) (hw1 : kindOf t ≠ 3) (hw2 : kindOf t ≠ 2) (ho : o.length ≤ 1000000000) (hfl : fs.length ≤ 900000) :
    Calls Try.prog 49 #[.pointer (some ⟨b, 0, none⟩)] w (BPost B b d (o ++ (sepT f ++ nowT (within f.kind t) t)) (fs ++ [{ f with next := f.next + 1 }] ++ openT (within f.kind t) t) w) := by
  have hnl : f.next < f.kids.length := (List.getElem?_eq_some_iff.1 hkid).1
  obtain ⟨ov, cells, hw, hown, hfs⟩ := h
  obtain ⟨v0, v1, v2, v3, c0, c1, c2, c3, A, n, c, hvs, hm, hcp, hK, hx⟩ := hfs.2 fs.length f (by simp)
  injection hvs with hv0 hvs
  injection hvs with hv1 hvs
  injection hvs with hv2 hvs
  injection hvs with hv3 _
  subst hv0 hv1 hv2 hv3
  have hn : n = f.kids.length := hK.1.symm
  subst hn
  obtain ⟨bk, ok, rfl, hXk, hck⟩ := hK.2 (by omega)
  obtain ⟨z0, z1, z2, y0, y1, y2, htk⟩ := hck f.next t hkid
  obtain ⟨kk, A1, m1, g1, A2, m2, g2, rfl, rfl, rfl⟩ := htk.shape
  obtain ⟨g, cp, rfl, hg1, hg2⟩ := hown.form (by simp)
  have k0 : w.cell? ⟨g, fs.length * 4, none⟩ = some (.int .i64 f.kind) := by rw [hown.cellAt _ (by simp)]; exact c0
  have k1 : w.cell? ⟨g, fs.length * 4 + 1, none⟩ = some (.slice (some ⟨bk, ok, none⟩) f.kids.length c) := by rw [hown.cellAt _ (by simp; omega)]; exact c1
  have k2 : w.cell? ⟨g, fs.length * 4 + 2, none⟩ = some (.int .i64 (f.next : Nat)) := by rw [hown.cellAt _ (by simp; omega)]; exact c2
  have k3 : w.cell? ⟨g, fs.length * 4 + 3, none⟩ = some (.string ⟨f.behind.toArray⟩) := by rw [hown.cellAt _ (by simp; omega)]; exact c3
  obtain ⟨p, v, hp, hBb, hbk, hv⟩ := hw.split
  obtain ⟨q0, q1, q2, f0, f1, f2⟩ := blk3 hbk
  have hlw := hbk.lt
  have hown' : w.ownsRow B 159 4 (.slice (some ⟨g, 0, none⟩) (fs.length + 1) cp) (fs.length + 1) cells := by simpa using hown
  have hw' : IsW B b (Lib.byteCells o) (.slice (some ⟨g, 0, none⟩) (fs.length + 1) cp) w := by simpa using hw
  have HH := Lib.hid (And.intro hfs (And.intro hown' (And.intro hw' htk)))
  have hfx : ((f.next : Int) == (f.kids.length : Int)) = false := by simp; omega
  have hfx2 : (f.next : Int) < (f.kids.length : Int) := by omega
  have hfz : (0 : Int) ≤ (f.next : Int) := by omega
  have hfm : f.next + 1 ≤ 9223372036854775807 := by unfold maxLen at hm; omega
  have hbkg : ¬ bk = g := by omega
  have hXw : bk < w.heap.size := by omega
  have hbg : ¬ b = g := fun e => by
    have := wr_apart hbk hown
    simp [Value.ownBlock] at this
    exact this e
  have hgfz : ∀ i, w.frozen? ⟨g, i, none⟩ = false := by
    intro i
    rcases HH.out.2.1.2 with ⟨h0, _⟩ | ⟨g', c', cur, hv', _, hgg, _⟩
    · cases h0
    · injection hv' with hv' _ _
      injection hv' with hv'
      injection hv' with hv' _ _
      subst hv'
      exact Blk.frozen hgg i
  have hgf := hgfz (fs.length * 4 + 2)
  clear hw hown hfs hw' hown' htk hck hgfz
  have hkk : kindOf t = kk := by
    obtain ⟨k0, rs0, ks0⟩ := t
    exact HH.out.2.2.2.heads.1.symm
  have HS := Lib.hid (show sepT f = [124] by unfold sepT; rw [if_pos ⟨hs1, hs2⟩])
  have HWI := Lib.hid (show within f.kind t = false by unfold within; rw [hkk]; simp [← hkk, hw1, hw2])
  have HN := Lib.hid (show WrAt B b d o (fs ++ [{ f with next := f.next + 1 }]) (w.setCell ⟨g, fs.length * 4 + 2, none⟩ (.int .i64 ((f.next : Int) + 1))) from next_step hB hg1 hbg hnl HH.out.1 HH.out.2.1 HH.out.2.2.1)
  have HSC := Lib.hid (show (f.kind != 3) = false by simp [hs1])
  have sa : (f.kind == 3) = true := by simpa using hs1
  have sb : (0 : Int) < (f.next : Int) := by omega
  have wa : (kk == 3) = false := by rw [hkk] at hw1; simpa using hw1
  have wb : (kk == 2) = false := by rw [hkk] at hw2; simpa using hw2
  clear hkk hs1 hs2
  have HBL := Lib.hid (show Below B w (w.setCell ⟨g, fs.length * 4 + 2, none⟩ (.int .i64 ((f.next : Int) + 1))) from (Below.refl B w).setCell (p := ⟨g, fs.length * 4 + 2, none⟩) hg1 _)
  have hsz : (w.setCell ⟨g, fs.length * 4 + 2, none⟩ (.int .i64 ((f.next : Int) + 1))).heap.size = w.heap.size := by simp [World.setCell]
  go_enter Try.func49, Try.ntmps49
  go_wp2_with fail
  have hup0 : Below (w.setCell ⟨g, fs.length * 4 + 2, none⟩ (.int .i64 ((f.next : Int) + 1))).heap.size (w.setCell ⟨g, fs.length * 4 + 2, none⟩ (.int .i64 ((f.next : Int) + 1))) ((w.setCell ⟨g, fs.length * 4 + 2, none⟩ (.int .i64 ((f.next : Int) + 1))).alloc (.cells #[.int .i64 f.kind, .slice (some ⟨bk, ok, none⟩) f.kids.length c, .int .i64 (f.next : Nat), .string ⟨f.behind.toArray⟩] 159)) := (Below.refl _ _).alloc (Nat.le_refl _) _
  have HN1 := wr_up HN.out (by rw [hsz]; exact hB) hup0
  obtain ⟨ov1, cells1, hw1, hown1, hfs1⟩ := HN1
  refine (wByte B b _ ov1 124 _ hw1 (by simp [Lib.byteCells_length]; omega) (by simp [World.setCell]; omega)).mono ?_
  rintro e u ⟨rfl, hwu, bu, hku⟩
  have hbO : Blk u w.heap.size 159 #[.int .i64 f.kind, .slice (some ⟨bk, ok, none⟩) f.kids.length c, .int .i64 (f.next : Nat), .string ⟨f.behind.toArray⟩] := hku _ _ _ (by decide) (by decide) (by have := Blk.new (w.setCell ⟨g, fs.length * 4 + 2, none⟩ (.int .i64 ((f.next : Int) + 1))) 159 #[.int .i64 f.kind, .slice (some ⟨bk, ok, none⟩) f.kids.length c, .int .i64 (f.next : Nat), .string ⟨f.behind.toArray⟩]; rw [hsz] at this; exact this)
  have o0 := hbO.cell 0
  have o1 := hbO.cell 1
  have o2 := hbO.cell 2
  simp only [List.getElem?_toArray, List.getElem?_cons_zero, List.getElem?_cons_succ] at o0 o1 o2
  have hlO := hbO.lt
  have hlow : ∀ j, j < B → u.heap[j]? = w.heap[j]? := fun j hj => by rw [bu.block j hj, hup0.block j (by rw [hsz]; omega)]; exact HBL.out.block j hj
  have x0 : u.cell? ⟨bk, ok + f.next * 3, none⟩ = some (.int .i64 kk) := by rw [World.cell?_of_block (a := ⟨bk, ok + f.next * 3, none⟩) (hlow bk hXk)]; exact y0
  have x1 : u.cell? ⟨bk, ok + f.next * 3 + 1, none⟩ = some (.slice A1 m1 g1) := by rw [World.cell?_of_block (a := ⟨bk, ok + f.next * 3 + 1, none⟩) (hlow bk hXk)]; exact y1
  have x2 : u.cell? ⟨bk, ok + f.next * 3 + 2, none⟩ = some (.slice A2 m2 g2) := by rw [World.cell?_of_block (a := ⟨bk, ok + f.next * 3 + 2, none⟩) (hlow bk hXk)]; exact y2
  have HNU := Lib.hid (show WrAt B b d (o ++ [124]) (fs ++ [{ f with next := f.next + 1 }]) u from ⟨ov1, cells1, by rw [bytes_app]; exact hwu, keepsO_own hown1 hku, hfs1.keep fun j hj => bu.block j hj⟩)
  have HTU := Lib.hid (HH.out.2.2.2.keep (w' := u) hlow)
  have hBu : B ≤ u.heap.size := by omega
  have HBU := Lib.hid (show Below B w u from (HBL.out.trans (hup0.mono (by rw [hsz]; exact hB))).trans bu)
  clear hw1 hown1 hfs1 hwu hku bu hup0 k0 k1 k2 k3 q0 q1 q2 y0 y1 y2
  go_wp2_with fail
  refine (begin_any B b d (o ++ [124]) (fs ++ [{ f with next := f.next + 1 }]) _ (wr_up HNU.out hBu ((Below.refl _ _).alloc (Nat.le_refl _) (.cells #[.int .i64 kk, .slice A1 m1 g1, .slice A2 m2 g2] 30))) (by simp; omega) false t kk A1 m1 g1 A2 m2 g2 (HTU.out.keep fun j hj => Below.heap_alloc _ _ _ (by omega)) (by first | omega | (simp; omega)) (by simp; omega)).mono ?_
  rintro e wz ⟨rfl, hz1, hz2⟩
  go_wp2
  go_end0
  refine ⟨rfl, ?_, ?_⟩
  · have e1 : o ++ (sepT f ++ nowT (within f.kind t) t) = (o ++ [124]) ++ nowT false t := by rw [HS.out, HWI.out]; simp
    rw [HWI.out, HS.out]
    simpa using hz1
  · exact (HBU.out.alloc hBu (.cells #[.int .i64 kk, .slice A1 m1 g1, .slice A2 m2 g2] 30)).trans hz2
end Go.Proofs.Ytponepcgokfiiaa
namespace Go.Proofs.Ytponepcgokfiiaa
open Go.RowKit

set_option maxHeartbeats 1000000 in
set_option maxRecDepth 100000 in
theorem goOn_S3_W2 (B b d : Nat) (o : List UInt8) (fs : List Fr) (f : Fr) (t : Tr) (w : World) (h : WrAt B b d o (fs ++ [f]) w) (hB : B ≤ w.heap.size) (hkid : f.kids[f.next]? = some t) (hs1 : f.kind ≠ 3) (hw1 : kindOf t = 2) (ho : o.length ≤ 1000000000) (hfl : fs.length ≤ 900000) :
    Calls Try.prog 49 #[.pointer (some ⟨b, 0, none⟩)] w (BPost B b d (o ++ (sepT f ++ nowT (within f.kind t) t)) (fs ++ [{ f with next := f.next + 1 }] ++ openT (within f.kind t) t) w) := by
  have hnl : f.next < f.kids.length := (List.getElem?_eq_some_iff.1 hkid).1
  obtain ⟨ov, cells, hw, hown, hfs⟩ := h
  obtain ⟨v0, v1, v2, v3, c0, c1, c2, c3, A, n, c, hvs, hm, hcp, hK, hx⟩ := hfs.2 fs.length f (by simp)
  injection hvs with hv0 hvs
  injection hvs with hv1 hvs
  injection hvs with hv2 hvs
  injection hvs with hv3 _
  subst hv0 hv1 hv2 hv3
  have hn : n = f.kids.length := hK.1.symm
  subst hn
  obtain ⟨bk, ok, rfl, hXk, hck⟩ := hK.2 (by omega)
  obtain ⟨z0, z1, z2, y0, y1, y2, htk⟩ := hck f.next t hkid
  obtain ⟨kk, A1, m1, g1, A2, m2, g2, rfl, rfl, rfl⟩ := htk.shape
  obtain ⟨g, cp, rfl, hg1, hg2⟩ := hown.form (by simp)
  have k0 : w.cell? ⟨g, fs.length * 4, none⟩ = some (.int .i64 f.kind) := by rw [hown.cellAt _ (by simp)]; exact c0
  have k1 : w.cell? ⟨g, fs.length * 4 + 1, none⟩ = some (.slice (some ⟨bk, ok, none⟩) f.kids.length c) := by rw [hown.cellAt _ (by simp; omega)]; exact c1
  have k2 : w.cell? ⟨g, fs.length * 4 + 2, none⟩ = some (.int .i64 (f.next : Nat)) := by rw [hown.cellAt _ (by simp; omega)]; exact c2
  have k3 : w.cell? ⟨g, fs.length * 4 + 3, none⟩ = some (.string ⟨f.behind.toArray⟩) := by rw [hown.cellAt _ (by simp; omega)]; exact c3
  obtain ⟨p, v, hp, hBb, hbk, hv⟩ := hw.split
  obtain ⟨q0, q1, q2, f0, f1, f2⟩ := blk3 hbk
  have hlw := hbk.lt
  have hown' : w.ownsRow B 159 4 (.slice (some ⟨g, 0, none⟩) (fs.length + 1) cp) (fs.length + 1) cells := by simpa using hown
  have hw' : IsW B b (Lib.byteCells o) (.slice (some ⟨g, 0, none⟩) (fs.length + 1) cp) w := by simpa using hw
  have HH := Lib.hid (And.intro hfs (And.intro hown' (And.intro hw' htk)))
  have hfx : ((f.next : Int) == (f.kids.length : Int)) = false := by simp; omega
  have hfx2 : (f.next : Int) < (f.kids.length : Int) := by omega
  have hfz : (0 : Int) ≤ (f.next : Int) := by omega
  have hfm : f.next + 1 ≤ 9223372036854775807 := by unfold maxLen at hm; omega
  have hbkg : ¬ bk = g := by omega
  have hXw : bk < w.heap.size := by omega
  have hbg : ¬ b = g := fun e => by
    have := wr_apart hbk hown
    simp [Value.ownBlock] at this
    exact this e
  have hgfz : ∀ i, w.frozen? ⟨g, i, none⟩ = false := by
    intro i
    rcases HH.out.2.1.2 with ⟨h0, _⟩ | ⟨g', c', cur, hv', _, hgg, _⟩
    · cases h0
    · injection hv' with hv' _ _
      injection hv' with hv'
      injection hv' with hv' _ _
      subst hv'
      exact Blk.frozen hgg i
  have hgf := hgfz (fs.length * 4 + 2)
  clear hw hown hfs hw' hown' htk hck hgfz
  have hkk : kindOf t = kk := by
    obtain ⟨k0, rs0, ks0⟩ := t
    exact HH.out.2.2.2.heads.1.symm
  have HS := Lib.hid (show sepT f = [] by unfold sepT; rw [if_neg (by omega)])
  have HWI := Lib.hid (show within f.kind t = true by unfold within; rw [hkk]; simp [← hkk, hw1, hs1])
  have HN := Lib.hid (show WrAt B b d o (fs ++ [{ f with next := f.next + 1 }]) (w.setCell ⟨g, fs.length * 4 + 2, none⟩ (.int .i64 ((f.next : Int) + 1))) from next_step hB hg1 hbg hnl HH.out.1 HH.out.2.1 HH.out.2.2.1)
  have HSC := Lib.hid (show (f.kind != 3) = true by simpa using hs1)
  have sa : (f.kind == 3) = false := by simpa using hs1
  have wa : (kk == 3) = false := by rw [hkk] at hw1; simp [hw1]
  have wb : (kk == 2) = true := by rw [hkk] at hw1; simpa using hw1
  clear hkk hs1
  have HBL := Lib.hid (show Below B w (w.setCell ⟨g, fs.length * 4 + 2, none⟩ (.int .i64 ((f.next : Int) + 1))) from (Below.refl B w).setCell (p := ⟨g, fs.length * 4 + 2, none⟩) hg1 _)
  have hsz : (w.setCell ⟨g, fs.length * 4 + 2, none⟩ (.int .i64 ((f.next : Int) + 1))).heap.size = w.heap.size := by simp [World.setCell]
  go_enter Try.func49, Try.ntmps49
  go_wp2_with fail
  rw [HSC.out]
  refine (begin_any B b d o (fs ++ [{ f with next := f.next + 1 }]) _ (wr_up HN.out (by rw [hsz]; exact hB) (((Below.refl _ _).alloc (Nat.le_refl _) (.cells #[.int .i64 f.kind, .slice (some ⟨bk, ok, none⟩) f.kids.length c, .int .i64 (f.next : Nat), .string ⟨f.behind.toArray⟩] 159)).alloc (by simp) (.cells #[.int .i64 kk, .slice A1 m1 g1, .slice A2 m2 g2] 30))) (by simp [World.setCell]; omega) true t kk A1 m1 g1 A2 m2 g2 (HH.out.2.2.2.keep fun j hj => by rw [Below.heap_alloc _ _ _ (by simp [World.setCell]; omega), Below.heap_alloc _ _ _ (by rw [hsz]; omega)]; exact HBL.out.block j hj) (by first | omega | (simp; omega)) (by simp; omega)).mono ?_
  rintro e wz ⟨rfl, hz1, hz2⟩
  go_wp2
  go_end0
  refine ⟨rfl, ?_, ?_⟩
  · have e1 : o ++ (sepT f ++ nowT (within f.kind t) t) = o ++ nowT true t := by rw [HS.out, HWI.out]; simp
    rw [HWI.out, HS.out]
    simpa using hz1
  · exact ((HBL.out.alloc (by rw [hsz]; omega) (.cells #[.int .i64 f.kind, .slice (some ⟨bk, ok, none⟩) f.kids.length c, .int .i64 (f.next : Nat), .string ⟨f.behind.toArray⟩] 159)).alloc (by simp [World.setCell]; omega) (.cells #[.int .i64 kk, .slice A1 m1 g1, .slice A2 m2 g2] 30)).trans hz2
set_option maxHeartbeats 1000000 in
set_option maxRecDepth 100000 in
theorem goOn_S2_W3 (B b d : Nat) (o : List UInt8) (fs : List Fr) (f : Fr) (t : Tr) (w : World) (h : WrAt B b d o (fs ++ [f]) w) (hB : B ≤ w.heap.size) (hkid : f.kids[f.next]? = some t) (hs1 : f.kind = 3) (hs2 : f.next = 0) (hw1 : kindOf t = 2) (ho : o.length ≤ 1000000000) (hfl : fs.length ≤ 900000) :
    Calls Try.prog 49 #[.pointer (some ⟨b, 0, none⟩)] w (BPost B b d (o ++ (sepT f ++ nowT (within f.kind t) t)) (fs ++ [{ f with next := f.next + 1 }] ++ openT (within f.kind t) t) w) := by
  have hnl : f.next < f.kids.length := (List.getElem?_eq_some_iff.1 hkid).1
  obtain ⟨ov, cells, hw, hown, hfs⟩ := h
  obtain ⟨v0, v1, v2, v3, c0, c1, c2, c3, A, n, c, hvs, hm, hcp, hK, hx⟩ := hfs.2 fs.length f (by simp)
  injection hvs with hv0 hvs
  injection hvs with hv1 hvs
  injection hvs with hv2 hvs
  injection hvs with hv3 _
  subst hv0 hv1 hv2 hv3
  have hn : n = f.kids.length := hK.1.symm
  subst hn
  obtain ⟨bk, ok, rfl, hXk, hck⟩ := hK.2 (by omega)
  obtain ⟨z0, z1, z2, y0, y1, y2, htk⟩ := hck f.next t hkid
  obtain ⟨kk, A1, m1, g1, A2, m2, g2, rfl, rfl, rfl⟩ := htk.shape
  obtain ⟨g, cp, rfl, hg1, hg2⟩ := hown.form (by simp)
  have k0 : w.cell? ⟨g, fs.length * 4, none⟩ = some (.int .i64 f.kind) := by rw [hown.cellAt _ (by simp)]; exact c0
  have k1 : w.cell? ⟨g, fs.length * 4 + 1, none⟩ = some (.slice (some ⟨bk, ok, none⟩) f.kids.length c) := by rw [hown.cellAt _ (by simp; omega)]; exact c1
  have k2 : w.cell? ⟨g, fs.length * 4 + 2, none⟩ = some (.int .i64 (f.next : Nat)) := by rw [hown.cellAt _ (by simp; omega)]; exact c2
  have k3 : w.cell? ⟨g, fs.length * 4 + 3, none⟩ = some (.string ⟨f.behind.toArray⟩) := by rw [hown.cellAt _ (by simp; omega)]; exact c3
  obtain ⟨p, v, hp, hBb, hbk, hv⟩ := hw.split
  obtain ⟨q0, q1, q2, f0, f1, f2⟩ := blk3 hbk
  have hlw := hbk.lt
  have hown' : w.ownsRow B 159 4 (.slice (some ⟨g, 0, none⟩) (fs.length + 1) cp) (fs.length + 1) cells := by simpa using hown
  have hw' : IsW B b (Lib.byteCells o) (.slice (some ⟨g, 0, none⟩) (fs.length + 1) cp) w := by simpa using hw
  have HH := Lib.hid (And.intro hfs (And.intro hown' (And.intro hw' htk)))
  have hfx : ((f.next : Int) == (f.kids.length : Int)) = false := by simp; omega
  have hfx2 : (f.next : Int) < (f.kids.length : Int) := by omega
  have hfz : (0 : Int) ≤ (f.next : Int) := by omega
  have hfm : f.next + 1 ≤ 9223372036854775807 := by unfold maxLen at hm; omega
  have hbkg : ¬ bk = g := by omega
  have hXw : bk < w.heap.size := by omega
  have hbg : ¬ b = g := fun e => by
    have := wr_apart hbk hown
    simp [Value.ownBlock] at this
    exact this e
  have hgfz : ∀ i, w.frozen? ⟨g, i, none⟩ = false := by
    intro i
    rcases HH.out.2.1.2 with ⟨h0, _⟩ | ⟨g', c', cur, hv', _, hgg, _⟩
    · cases h0
    · injection hv' with hv' _ _
      injection hv' with hv'
      injection hv' with hv' _ _
      subst hv'
      exact Blk.frozen hgg i
  have hgf := hgfz (fs.length * 4 + 2)
  clear hw hown hfs hw' hown' htk hck hgfz
  have hkk : kindOf t = kk := by
    obtain ⟨k0, rs0, ks0⟩ := t
    exact HH.out.2.2.2.heads.1.symm
  have HS := Lib.hid (show sepT f = [] by unfold sepT; rw [if_neg (by omega)])
  have HWI := Lib.hid (show within f.kind t = false by unfold within; rw [hkk]; simp [← hkk, hw1, hs1])
  have HN := Lib.hid (show WrAt B b d o (fs ++ [{ f with next := f.next + 1 }]) (w.setCell ⟨g, fs.length * 4 + 2, none⟩ (.int .i64 ((f.next : Int) + 1))) from next_step hB hg1 hbg hnl HH.out.1 HH.out.2.1 HH.out.2.2.1)
  have HSC := Lib.hid (show (f.kind != 3) = false by simp [hs1])
  have sa : (f.kind == 3) = true := by simpa using hs1
  have sb : ¬ (0 : Int) < (f.next : Int) := by omega
  have wa : (kk == 3) = false := by rw [hkk] at hw1; simp [hw1]
  have wb : (kk == 2) = true := by rw [hkk] at hw1; simpa using hw1
  clear hkk hs1 hs2
  have HBL := Lib.hid (show Below B w (w.setCell ⟨g, fs.length * 4 + 2, none⟩ (.int .i64 ((f.next : Int) + 1))) from (Below.refl B w).setCell (p := ⟨g, fs.length * 4 + 2, none⟩) hg1 _)
  have hsz : (w.setCell ⟨g, fs.length * 4 + 2, none⟩ (.int .i64 ((f.next : Int) + 1))).heap.size = w.heap.size := by simp [World.setCell]
  go_enter Try.func49, Try.ntmps49
  go_wp2_with fail
  rw [HSC.out]
  refine (begin_any B b d o (fs ++ [{ f with next := f.next + 1 }]) _ (wr_up HN.out (by rw [hsz]; exact hB) (((Below.refl _ _).alloc (Nat.le_refl _) (.cells #[.int .i64 f.kind, .slice (some ⟨bk, ok, none⟩) f.kids.length c, .int .i64 (f.next : Nat), .string ⟨f.behind.toArray⟩] 159)).alloc (by simp) (.cells #[.int .i64 kk, .slice A1 m1 g1, .slice A2 m2 g2] 30))) (by simp [World.setCell]; omega) false t kk A1 m1 g1 A2 m2 g2 (HH.out.2.2.2.keep fun j hj => by rw [Below.heap_alloc _ _ _ (by simp [World.setCell]; omega), Below.heap_alloc _ _ _ (by rw [hsz]; omega)]; exact HBL.out.block j hj) (by first | omega | (simp; omega)) (by simp; omega)).mono ?_
  rintro e wz ⟨rfl, hz1, hz2⟩
  go_wp2
  go_end0
  refine ⟨rfl, ?_, ?_⟩
  · have e1 : o ++ (sepT f ++ nowT (within f.kind t) t) = o ++ nowT false t := by rw [HS.out, HWI.out]; simp
    rw [HWI.out, HS.out]
    simpa using hz1
  · exact ((HBL.out.alloc (by rw [hsz]; omega) (.cells #[.int .i64 f.kind, .slice (some ⟨bk, ok, none⟩) f.kids.length c, .int .i64 (f.next : Nat), .string ⟨f.behind.toArray⟩] 159)).alloc (by simp [World.setCell]; omega) (.cells #[.int .i64 kk, .slice A1 m1 g1, .slice A2 m2 g2] 30)).trans hz2
set_option maxHeartbeats 1000000 in
set_option maxRecDepth 100000 in
theorem goOn_S1_W3 (B b d : Nat) (o : List UInt8) (fs : List Fr) (f : Fr) (t : Tr) (w : World) (h : WrAt B b d o (fs ++ [f]) w) (hB : B ≤ w.heap.size) (hkid : f.kids[f.next]? = some t) (hs1 : f.kind = 3) (hs2 : 0 < f.next) (hw1 : kindOf t = 2) (ho : o.length ≤ 1000000000) (hfl : fs.length ≤ 900000) :
    Calls Try.prog 49 #[.pointer (some ⟨b, 0, none⟩)] w (BPost B b d (o ++ (sepT f ++ nowT (within f.kind t) t)) (fs ++ [{ f with next := f.next + 1 }] ++ openT (within f.kind t) t) w) := by
  have hnl : f.next < f.kids.length := (List.getElem?_eq_some_iff.1 hkid).1
  obtain ⟨ov, cells, hw, hown, hfs⟩ := h
  obtain ⟨v0, v1, v2, v3, c0, c1, c2, c3, A, n, c, hvs, hm, hcp, hK, hx⟩ := hfs.2 fs.length f (by simp)
  injection hvs with hv0 hvs
  injection hvs with hv1 hvs
  injection hvs with hv2 hvs
  injection hvs with hv3 _
  subst hv0 hv1 hv2 hv3
  have hn : n = f.kids.length := hK.1.symm
  subst hn
  obtain ⟨bk, ok, rfl, hXk, hck⟩ := hK.2 (by omega)
  obtain ⟨z0, z1, z2, y0, y1, y2, htk⟩ := hck f.next t hkid
  obtain ⟨kk, A1, m1, g1, A2, m2, g2, rfl, rfl, rfl⟩ := htk.shape
  obtain ⟨g, cp, rfl, hg1, hg2⟩ := hown.form (by simp)
  have k0 : w.cell? ⟨g, fs.length * 4, none⟩ = some (.int .i64 f.kind) := by rw [hown.cellAt _ (by simp)]; exact c0
  have k1 : w.cell? ⟨g, fs.length * 4 + 1, none⟩ = some (.slice (some ⟨bk, ok, none⟩) f.kids.length c) := by rw [hown.cellAt _ (by simp; omega)]; exact c1
  have k2 : w.cell? ⟨g, fs.length * 4 + 2, none⟩ = some (.int .i64 (f.next : Nat)) := by rw [hown.cellAt _ (by simp; omega)]; exact c2
  have k3 : w.cell? ⟨g, fs.length * 4 + 3, none⟩ = some (.string ⟨f.behind.toArray⟩) := by rw [hown.cellAt _ (by simp; omega)]; exact c3
  obtain ⟨p, v, hp, hBb, hbk, hv⟩ := hw.split
  obtain ⟨q0, q1, q2, f0, f1, f2⟩ := blk3 hbk
  have hlw := hbk.lt
  have hown' : w.ownsRow B 159 4 (.slice (some ⟨g, 0, none⟩) (fs.length + 1) cp) (fs.length + 1) cells := by simpa using hown
  have hw' : IsW B b (Lib.byteCells o) (.slice (some ⟨g, 0, none⟩) (fs.length + 1) cp) w := by simpa using hw
  have HH := Lib.hid (And.intro hfs (And.intro hown' (And.intro hw' htk)))
  have hfx : ((f.next : Int) == (f.kids.length : Int)) = false := by simp; omega
  have hfx2 : (f.next : Int) < (f.kids.length : Int) := by omega
  have hfz : (0 : Int) ≤ (f.next : Int) := by omega
  have hfm : f.next + 1 ≤ 9223372036854775807 := by unfold maxLen at hm; omega
  have hbkg : ¬ bk = g := by omega
  have hXw : bk < w.heap.size := by omega
  have hbg : ¬ b = g := fun e => by
    have := wr_apart hbk hown
    simp [Value.ownBlock] at this
    exact this e
  have hgfz : ∀ i, w.frozen? ⟨g, i, none⟩ = false := by
    intro i
    rcases HH.out.2.1.2 with ⟨h0, _⟩ | ⟨g', c', cur, hv', _, hgg, _⟩
    · cases h0
    · injection hv' with hv' _ _
      injection hv' with hv'
      injection hv' with hv' _ _
      subst hv'
      exact Blk.frozen hgg i
  have hgf := hgfz (fs.length * 4 + 2)
  clear hw hown hfs hw' hown' htk hck hgfz
  have hkk : kindOf t = kk := by
    obtain ⟨k0, rs0, ks0⟩ := t
    exact HH.out.2.2.2.heads.1.symm
  have HS := Lib.hid (show sepT f = [124] by unfold sepT; rw [if_pos ⟨hs1, hs2⟩])
  have HWI := Lib.hid (show within f.kind t = false by unfold within; rw [hkk]; simp [← hkk, hw1, hs1])
  have HN := Lib.hid (show WrAt B b d o (fs ++ [{ f with next := f.next + 1 }]) (w.setCell ⟨g, fs.length * 4 + 2, none⟩ (.int .i64 ((f.next : Int) + 1))) from next_step hB hg1 hbg hnl HH.out.1 HH.out.2.1 HH.out.2.2.1)
  have HSC := Lib.hid (show (f.kind != 3) = false by simp [hs1])
  have sa : (f.kind == 3) = true := by simpa using hs1
  have sb : (0 : Int) < (f.next : Int) := by omega
  have wa : (kk == 3) = false := by rw [hkk] at hw1; simp [hw1]
  have wb : (kk == 2) = true := by rw [hkk] at hw1; simpa using hw1
  clear hkk hs1 hs2
  have HBL := Lib.hid (show Below B w (w.setCell ⟨g, fs.length * 4 + 2, none⟩ (.int .i64 ((f.next : Int) + 1))) from (Below.refl B w).setCell (p := ⟨g, fs.length * 4 + 2, none⟩) hg1 _)
  have hsz : (w.setCell ⟨g, fs.length * 4 + 2, none⟩ (.int .i64 ((f.next : Int) + 1))).heap.size = w.heap.size := by simp [World.setCell]
  go_enter Try.func49, Try.ntmps49
  go_wp2_with fail
  have hup0 : Below (w.setCell ⟨g, fs.length * 4 + 2, none⟩ (.int .i64 ((f.next : Int) + 1))).heap.size (w.setCell ⟨g, fs.length * 4 + 2, none⟩ (.int .i64 ((f.next : Int) + 1))) ((w.setCell ⟨g, fs.length * 4 + 2, none⟩ (.int .i64 ((f.next : Int) + 1))).alloc (.cells #[.int .i64 f.kind, .slice (some ⟨bk, ok, none⟩) f.kids.length c, .int .i64 (f.next : Nat), .string ⟨f.behind.toArray⟩] 159)) := (Below.refl _ _).alloc (Nat.le_refl _) _
  have HN1 := wr_up HN.out (by rw [hsz]; exact hB) hup0
  obtain ⟨ov1, cells1, hw1, hown1, hfs1⟩ := HN1
  refine (wByte B b _ ov1 124 _ hw1 (by simp [Lib.byteCells_length]; omega) (by simp [World.setCell]; omega)).mono ?_
  rintro e u ⟨rfl, hwu, bu, hku⟩
  have hbO : Blk u w.heap.size 159 #[.int .i64 f.kind, .slice (some ⟨bk, ok, none⟩) f.kids.length c, .int .i64 (f.next : Nat), .string ⟨f.behind.toArray⟩] := hku _ _ _ (by decide) (by decide) (by have := Blk.new (w.setCell ⟨g, fs.length * 4 + 2, none⟩ (.int .i64 ((f.next : Int) + 1))) 159 #[.int .i64 f.kind, .slice (some ⟨bk, ok, none⟩) f.kids.length c, .int .i64 (f.next : Nat), .string ⟨f.behind.toArray⟩]; rw [hsz] at this; exact this)
  have o0 := hbO.cell 0
  have o1 := hbO.cell 1
  have o2 := hbO.cell 2
  simp only [List.getElem?_toArray, List.getElem?_cons_zero, List.getElem?_cons_succ] at o0 o1 o2
  have hlO := hbO.lt
  have hlow : ∀ j, j < B → u.heap[j]? = w.heap[j]? := fun j hj => by rw [bu.block j hj, hup0.block j (by rw [hsz]; omega)]; exact HBL.out.block j hj
  have x0 : u.cell? ⟨bk, ok + f.next * 3, none⟩ = some (.int .i64 kk) := by rw [World.cell?_of_block (a := ⟨bk, ok + f.next * 3, none⟩) (hlow bk hXk)]; exact y0
  have x1 : u.cell? ⟨bk, ok + f.next * 3 + 1, none⟩ = some (.slice A1 m1 g1) := by rw [World.cell?_of_block (a := ⟨bk, ok + f.next * 3 + 1, none⟩) (hlow bk hXk)]; exact y1
  have x2 : u.cell? ⟨bk, ok + f.next * 3 + 2, none⟩ = some (.slice A2 m2 g2) := by rw [World.cell?_of_block (a := ⟨bk, ok + f.next * 3 + 2, none⟩) (hlow bk hXk)]; exact y2
  have HNU := Lib.hid (show WrAt B b d (o ++ [124]) (fs ++ [{ f with next := f.next + 1 }]) u from ⟨ov1, cells1, by rw [bytes_app]; exact hwu, keepsO_own hown1 hku, hfs1.keep fun j hj => bu.block j hj⟩)
  have HTU := Lib.hid (HH.out.2.2.2.keep (w' := u) hlow)
  have hBu : B ≤ u.heap.size := by omega
  have HBU := Lib.hid (show Below B w u from (HBL.out.trans (hup0.mono (by rw [hsz]; exact hB))).trans bu)
  clear hw1 hown1 hfs1 hwu hku bu hup0 k0 k1 k2 k3 q0 q1 q2 y0 y1 y2
  go_wp2_with fail
  rw [HSC.out]
  refine (begin_any B b d (o ++ [124]) (fs ++ [{ f with next := f.next + 1 }]) _ (wr_up HNU.out hBu ((Below.refl _ _).alloc (Nat.le_refl _) (.cells #[.int .i64 kk, .slice A1 m1 g1, .slice A2 m2 g2] 30))) (by simp; omega) false t kk A1 m1 g1 A2 m2 g2 (HTU.out.keep fun j hj => Below.heap_alloc _ _ _ (by omega)) (by first | omega | (simp; omega)) (by simp; omega)).mono ?_
  rintro e wz ⟨rfl, hz1, hz2⟩
  go_wp2
  go_end0
  refine ⟨rfl, ?_, ?_⟩
  · have e1 : o ++ (sepT f ++ nowT (within f.kind t) t) = (o ++ [124]) ++ nowT false t := by rw [HS.out, HWI.out]; simp
    rw [HWI.out, HS.out]
    simpa using hz1
  · exact (HBU.out.alloc hBu (.cells #[.int .i64 kk, .slice A1 m1 g1, .slice A2 m2 g2] 30)).trans hz2
end Go.Proofs.Ytponepcgokfiiaa
namespace Go.Proofs.Ytponepcgokfiiaa
open Go.RowKit

theorem goOn_more (B b d : Nat) (o : List UInt8) (fs : List Fr) (f : Fr) (t : Tr) (w : World) (h : WrAt B b d o (fs ++ [f]) w) (hB : B ≤ w.heap.size) (hkid : f.kids[f.next]? = some t) (ho : o.length ≤ 1000000000) (hfl : fs.length ≤ 900000) :
    Calls Try.prog 49 #[.pointer (some ⟨b, 0, none⟩)] w (BPost B b d (o ++ (sepT f ++ nowT (within f.kind t) t)) (fs ++ [{ f with next := f.next + 1 }] ++ openT (within f.kind t) t) w) := by
  by_cases h3 : kindOf t = 3
  · by_cases k3 : f.kind = 3
    · by_cases hn : f.next = 0
      · exact goOn_S2_W1 B b d o fs f t w h hB hkid k3 hn h3 ho hfl
      · exact goOn_S1_W1 B b d o fs f t w h hB hkid k3 (by omega) h3 ho hfl
    · exact goOn_S3_W1 B b d o fs f t w h hB hkid k3 h3 ho hfl
  · by_cases h2 : kindOf t = 2
    · by_cases k3 : f.kind = 3
      · by_cases hn : f.next = 0
        · exact goOn_S2_W3 B b d o fs f t w h hB hkid k3 hn h2 ho hfl
        · exact goOn_S1_W3 B b d o fs f t w h hB hkid k3 (by omega) h2 ho hfl
      · exact goOn_S3_W2 B b d o fs f t w h hB hkid k3 h2 ho hfl
    · by_cases k3 : f.kind = 3
      · by_cases hn : f.next = 0
        · exact goOn_S2_W4 B b d o fs f t w h hB hkid k3 hn h3 h2 ho hfl
        · exact goOn_S1_W4 B b d o fs f t w h hB hkid k3 (by omega) h3 h2 ho hfl
      · exact goOn_S3_W4 B b d o fs f t w h hB hkid k3 h3 h2 ho hfl
/-- One step: what is written and what is still to be written stay the same text; a step less is left. -/
theorem goOn_any (B b d : Nat) (o : List UInt8) (fs : List Fr) (w : World) (h : WrAt B b d o fs w) (hB : B ≤ w.heap.size) (hne : fs ≠ []) (ho : (o ++ pend fs).length ≤ 1000000000) (hfl : work fs ≤ 900000) :
    Calls Try.prog 49 #[.pointer (some ⟨b, 0, none⟩)] w fun e w' => e = .returned (.tuple #[]) ∧ Below B w w' ∧ ∃ o' fs', WrAt B b d o' fs' w' ∧ o' ++ pend fs' = o ++ pend fs ∧ work fs' + 1 = work fs := by
  obtain ⟨gs, f, rfl⟩ : ∃ gs f, fs = gs ++ [f] := ⟨fs.dropLast, fs.getLast hne, (List.dropLast_concat_getLast hne).symm⟩
  have hwl := work_len (gs ++ [f])
  have hgl : gs.length ≤ 900000 := by simp at hwl; omega
  have hx : f.next ≤ f.kids.length := by
    obtain ⟨ov, cells, hw, hown, hfs⟩ := h
    obtain ⟨v0, v1, v2, v3, _, _, _, _, A, n, c, _, _, _, _, hx⟩ := hfs.2 gs.length f (by simp)
    exact hx
  rw [pend_snoc] at ho ⊢
  rw [work_snoc] at hfl ⊢
  rw [List.length_append] at ho
  rcases Nat.eq_or_lt_of_le hx with he | hl
  · rw [end_text f he, List.length_append] at ho
    refine (goOn_end B b d o gs f w h hB he (by omega) (by omega)).mono ?_
    rintro e w' ⟨rfl, h1, h2⟩
    refine ⟨rfl, h2, _, _, h1, ?_, ?_⟩
    · rw [end_text f he, List.append_assoc]
    · rw [end_work f he]
  · have hk : f.kids[f.next]? = some f.kids[f.next] := List.getElem?_eq_getElem hl
    generalize f.kids[f.next] = t at hk
    refine (goOn_more B b d o gs f t w h hB hk (by omega) hgl).mono ?_
    rintro e w' ⟨rfl, h1, h2⟩
    refine ⟨rfl, h2, _, _, h1, ?_, ?_⟩
    · rw [goOn_text f t hk]
      have : pend (gs ++ [{ f with next := f.next + 1 }] ++ openT (within f.kind t) t) = pend (openT (within f.kind t) t) ++ (restF { f with next := f.next + 1 } ++ pend gs) := by
        rw [← pend_snoc]
        simp [pend]
      rw [this]
      simp
    · rw [goOn_work f t hk]
      have : work (gs ++ [{ f with next := f.next + 1 }] ++ openT (within f.kind t) t) = work gs + workF { f with next := f.next + 1 } + work (openT (within f.kind t) t) := by
        rw [← work_snoc]; simp [work]; omega
      rw [this]; omega
set_option maxHeartbeats 1000000 in
set_option maxRecDepth 100000 in
theorem text_any (t : Tr) (d : Nat) (k : Int) (A : Option Addr) (n c : Nat) (A' : Option Addr) (n' c' : Nat) (w : World) (ht : TreeAt w (· < w.heap.size) d t [.int .i64 k, .slice A n c, .slice A' n' c']) (hl : (bodyT t).length ≤ 1000000000) (hs : stepsT t ≤ 900000) :
    Calls Try.prog 30 #[.agg #[.int .i64 k, .slice A n c, .slice A' n' c']] w fun e w' => e = .returned (.string ⟨(bodyT t).toArray⟩) ∧ Below w.heap.size w w' := by
  go_enter Try.func30, Try.ntmps30
  go_wp2_with fail
  obtain ⟨W0, hW0⟩ : ∃ W0, W0 = (w.alloc (.cells #[.int .i64 k, .slice A n c, .slice A' n' c'] 30)).alloc (.cells #[.pointer none, .slice none 0 0, .slice none 0 0] 109) := ⟨_, rfl⟩
  rw [← hW0]
  have hs0 : W0.heap.size = w.heap.size + 2 := by rw [hW0]; simp
  have hb0 : Below w.heap.size w W0 := by rw [hW0]; exact ((Below.refl _ w).alloc (Nat.le_refl _) _).alloc (by simp) _
  have hwr : WrAt w.heap.size (w.heap.size + 1) d [] [] W0 := by
    refine ⟨.slice none 0 0, [], .inl ⟨by omega, .slice none 0 0, ?_, World.ownsRow_nil _ _ _ _⟩, World.ownsRow_nil _ _ _ _, FrsAt.nil _ _ _⟩
    rw [hW0]
    have := Blk.new (w.alloc (.cells #[.int .i64 k, .slice A n c, .slice A' n' c'] 30)) 109 #[.pointer none, .slice none 0 0, .slice none 0 0]
    simpa using this
  refine (begin_any w.heap.size (w.heap.size + 1) d [] [] W0 hwr (by omega) false t k A n c A' n' c' (ht.keep fun j hj => hb0.block j hj) (by simp) (by simp)).mono ?_
  rintro e w1 ⟨rfl, hw1, b1⟩
  simp only [List.nil_append] at hw1
  have hbt := begin_text false t (by simp)
  have hbw := begin_work false t
  simp only [wrapP, Bool.false_eq_true, if_false] at hbt
  have hc1 := hb0.trans b1
  have HW1 := Lib.hid hw1
  clear hw1 hwr hW0
  go_wp2_with fail
  go_loopg [6] (stepsT t + 1) (fun gn _ wr => ∃ (o : List UInt8) (fs : List Fr), gn = work fs + 1 ∧ work fs ≤ stepsT t ∧ o ++ pend fs = bodyT t ∧ WrAt w.heap.size (w.heap.size + 1) d o fs wr ∧ Below w.heap.size w wr)
  case atStart => exact ⟨nowT false t, openT false t, by rw [hbw], by rw [hbw]; exact Nat.le_refl _, hbt, HW1.out, hc1⟩
  case round =>
    obtain ⟨o, fs, rfl, hwk, htx, hwr, hbr⟩ := hrel
    have hBr := hbr.size
    have HWR := Lib.hid hwr
    obtain ⟨ov, cells, hw, hown, hfs⟩ := hwr
    obtain ⟨p, v, hp, hBb, hbk, hv⟩ := hw.split
    obtain ⟨q0, q1, q2, f0, f1, f2⟩ := blk3 hbk
    obtain ⟨ao, cp, rfl⟩ : ∃ ao cp, ov = .slice ao fs.length cp := by
      rcases hown.2 with ⟨rfl, h0⟩ | ⟨g, cap, cur, rfl, _⟩
      · exact ⟨none, 0, by rw [h0]⟩
      · exact ⟨_, _, rfl⟩
    by_cases hne : fs = []
    · subst hne
      have htx' : o = bodyT t := by simpa [pend] using htx
      have HTX := Lib.hid htx'
      clear htx htx' hv hown hfs
      go_wp2_with fail
      refine (wtext w.heap.size (w.heap.size + 1) o _ _ hw (by omega)).mono ?_
      rintro e w2 ⟨rfl, b2⟩
      go_wp2
      go_ret
      exact ⟨by rw [← HTX.out]; rfl, hbr.trans b2⟩
    · have hpos : (0 : Int) < (fs.length : Int) := by
        have : fs.length ≠ 0 := by simpa using hne
        omega
      have HTX := Lib.hid htx
      clear htx hv hown hfs hw
      go_wp2_with fail
      refine (goOn_any w.heap.size (w.heap.size + 1) d o fs _ HWR.out (by omega) hne (by rw [HTX.out]; exact hl) (by omega)).mono ?_
      rintro e w2 ⟨rfl, b2, o', fs', h1, h2, h3⟩
      go_wp2
      go_roundg (work fs' + 1)
      case measure => omega
      case rel => exact ⟨o', fs', rfl, by omega, by rw [h2]; exact HTX.out, h1, hbr.trans b2⟩
end Go.Proofs.Ytponepcgokfiiaa
