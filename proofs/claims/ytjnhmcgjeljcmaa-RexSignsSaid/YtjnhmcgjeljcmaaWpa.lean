/- rex.writer.goOn: a kid more. -/
import Derived.Test.YtjnhmcgjeljcmaaWpl
import Derived.Test.YtjnhmcgjeljcmaaXw
import Derived.Test.YtjnhmcgjeljcmaaWnn
namespace Go.Proofs.Ytjnhmcgjeljcmaa
open Go.RowKit

set_option maxHeartbeats 1000000 in
set_option maxRecDepth 100000 in
theorem goOn_S3_W1 (B b d : Nat) (o : List UInt8) (fs : List Fr) (f : Fr) (t : Tr) (w : World) (h : WrAt B b d o (fs ++ [f]) w) (hB : B ≤ w.heap.size) (hkid : f.kids[f.next]? = some t) (hs1 : f.kind ≠ 3) (hw1 : kindOf t = 3) (ho : o.length ≤ 1000000000) (hfl : fs.length ≤ 900000) :
    Calls Try.prog 37 #[.pointer (some ⟨b, 0, none⟩)] w (BPost B b d (o ++ (sepT f ++ nowT (within f.kind t) t)) (fs ++ [{ f with next := f.next + 1 }] ++ openT (within f.kind t) t) w) := by
  have hnl : f.next < f.kids.length := (List.getElem?_eq_some_iff.1 hkid).1
  obtain ⟨ov, cells, hw, hown, hfs⟩ := h
  obtain ⟨v0, v1, v2, v3, c0, c1, c2, c3, A, n, c, hvs, hm, hcp, hK, hx⟩ := hfs.2 fs.length f (by simp)
  injection hvs with hv0 hvs
  injection hvs with hv1 hvs
  injection hvs with hv2 hvs
  injection hvs with hv3 _
  subst hv0 hv1 hv2 hv3
  have hn : n = f.kids.length := hK.1.symm
  subst hn
  obtain ⟨bk, ok, rfl, hXk, hck⟩ := hK.2 (by omega)
  obtain ⟨z0, z1, z2, y0, y1, y2, htk⟩ := hck f.next t hkid
  obtain ⟨kk, A1, m1, g1, A2, m2, g2, rfl, rfl, rfl⟩ := htk.shape
  obtain ⟨g, cp, rfl, hg1, hg2⟩ := hown.form (by simp)
  have k0 : w.cell? ⟨g, fs.length * 4, none⟩ = some (.int .i64 f.kind) := by rw [hown.cellAt _ (by simp)]; exact c0
  have k1 : w.cell? ⟨g, fs.length * 4 + 1, none⟩ = some (.slice (some ⟨bk, ok, none⟩) f.kids.length c) := by rw [hown.cellAt _ (by simp; omega)]; exact c1
  have k2 : w.cell? ⟨g, fs.length * 4 + 2, none⟩ = some (.int .i64 (f.next : Nat)) := by rw [hown.cellAt _ (by simp; omega)]; exact c2
  have k3 : w.cell? ⟨g, fs.length * 4 + 3, none⟩ = some (.string ⟨f.behind.toArray⟩) := by rw [hown.cellAt _ (by simp; omega)]; exact c3
  obtain ⟨p, v, hp, hBb, hbk, hv⟩ := hw.split
  obtain ⟨q0, q1, q2, f0, f1, f2⟩ := blk3 hbk
  have hlw := hbk.lt
  have hown' : w.ownsRow B 131 4 (.slice (some ⟨g, 0, none⟩) (fs.length + 1) cp) (fs.length + 1) cells := by simpa using hown
  have hw' : IsW B b (Lib.byteCells o) (.slice (some ⟨g, 0, none⟩) (fs.length + 1) cp) w := by simpa using hw
  have HH := Lib.hid (And.intro hfs (And.intro hown' (And.intro hw' htk)))
  have hfx : ((f.next : Int) == (f.kids.length : Int)) = false := by simp; omega
  have hfx2 : (f.next : Int) < (f.kids.length : Int) := by omega
  have hfz : (0 : Int) ≤ (f.next : Int) := by omega
  have hfm : f.next + 1 ≤ 9223372036854775807 := by unfold maxLen at hm; omega
  have hbkg : ¬ bk = g := by omega
  have hXw : bk < w.heap.size := by omega
  have hbg : ¬ b = g := fun e => by
    have := wr_apart hbk hown
    simp [Value.ownBlock] at this
    exact this e
  have hgfz : ∀ i, w.frozen? ⟨g, i, none⟩ = false := by
    intro i
    rcases HH.out.2.1.2 with ⟨h0, _⟩ | ⟨g', c', cur, hv', _, hgg, _⟩
    · cases h0
    · injection hv' with hv' _ _
      injection hv' with hv'
      injection hv' with hv' _ _
      subst hv'
      exact Blk.frozen hgg i
  have hgf := hgfz (fs.length * 4 + 2)
  clear hw hown hfs hw' hown' htk hck hgfz
  have hkk : kindOf t = kk := by
    obtain ⟨k0, rs0, ks0⟩ := t
    exact HH.out.2.2.2.heads.1.symm
  have HS := Lib.hid (show sepT f = [] by unfold sepT; rw [if_neg (by omega)])
  have HWI := Lib.hid (show within f.kind t = true by unfold within; rw [hkk]; simp [← hkk, hw1])
  have HN := Lib.hid (show WrAt B b d o (fs ++ [{ f with next := f.next + 1 }]) (w.setCell ⟨g, fs.length * 4 + 2, none⟩ (.int .i64 ((f.next : Int) + 1))) from next_step hB hg1 hbg hnl HH.out.1 HH.out.2.1 HH.out.2.2.1)
  have HSC := Lib.hid (show (f.kind != 3) = true by simpa using hs1)
  have sa : (f.kind == 3) = false := by simpa using hs1
  have wa : (kk == 3) = true := by rw [hkk] at hw1; simpa using hw1
  clear hkk hs1
  have HBL := Lib.hid (show Below B w (w.setCell ⟨g, fs.length * 4 + 2, none⟩ (.int .i64 ((f.next : Int) + 1))) from (Below.refl B w).setCell (p := ⟨g, fs.length * 4 + 2, none⟩) hg1 _)
  have hsz : (w.setCell ⟨g, fs.length * 4 + 2, none⟩ (.int .i64 ((f.next : Int) + 1))).heap.size = w.heap.size := by simp [World.setCell]
  go_enter Try.func37, Try.ntmps37
  go_wp2_with fail
  refine (begin_any B b d o (fs ++ [{ f with next := f.next + 1 }]) _ (wr_up HN.out (by rw [hsz]; exact hB) (((Below.refl _ _).alloc (Nat.le_refl _) (.cells #[.int .i64 f.kind, .slice (some ⟨bk, ok, none⟩) f.kids.length c, .int .i64 (f.next : Nat), .string ⟨f.behind.toArray⟩] 131)).alloc (by simp) (.cells #[.int .i64 kk, .slice A1 m1 g1, .slice A2 m2 g2] 26))) (by simp [World.setCell]; omega) true t kk A1 m1 g1 A2 m2 g2 (HH.out.2.2.2.keep fun j hj => by rw [Below.heap_alloc _ _ _ (by simp [World.setCell]; omega), Below.heap_alloc _ _ _ (by rw [hsz]; omega)]; exact HBL.out.block j hj) (by first | omega | (simp; omega)) (by simp; omega)).mono ?_
  rintro e wz ⟨rfl, hz1, hz2⟩
  go_wp2
  go_end0
  refine ⟨rfl, ?_, ?_⟩
  · have e1 : o ++ (sepT f ++ nowT (within f.kind t) t) = o ++ nowT true t := by rw [HS.out, HWI.out]; simp
    rw [HWI.out, HS.out]
    simpa using hz1
  · exact ((HBL.out.alloc (by rw [hsz]; omega) (.cells #[.int .i64 f.kind, .slice (some ⟨bk, ok, none⟩) f.kids.length c, .int .i64 (f.next : Nat), .string ⟨f.behind.toArray⟩] 131)).alloc (by simp [World.setCell]; omega) (.cells #[.int .i64 kk, .slice A1 m1 g1, .slice A2 m2 g2] 26)).trans hz2
set_option maxHeartbeats 1000000 in
set_option maxRecDepth 100000 in
theorem goOn_S3_W4 (B b d : Nat) (o : List UInt8) (fs : List Fr) (f : Fr) (t : Tr) (w : World) (h : WrAt B b d o (fs ++ [f]) w) (hB : B ≤ w.heap.size) (hkid : f.kids[f.next]? = some t) (hs1 : f.kind ≠ 3) (hw1 : kindOf t ≠ 3) (hw2 : kindOf t ≠ 2) (ho : o.length ≤ 1000000000) (hfl : fs.length ≤ 900000) :
    Calls Try.prog 37 #[.pointer (some ⟨b, 0, none⟩)] w (BPost B b d (o ++ (sepT f ++ nowT (within f.kind t) t)) (fs ++ [{ f with next := f.next + 1 }] ++ openT (within f.kind t) t) w) := by
  have hnl : f.next < f.kids.length := (List.getElem?_eq_some_iff.1 hkid).1
  obtain ⟨ov, cells, hw, hown, hfs⟩ := h
  obtain ⟨v0, v1, v2, v3, c0, c1, c2, c3, A, n, c, hvs, hm, hcp, hK, hx⟩ := hfs.2 fs.length f (by simp)
  injection hvs with hv0 hvs
  injection hvs with hv1 hvs
  injection hvs with hv2 hvs
  injection hvs with hv3 _
  subst hv0 hv1 hv2 hv3
  have hn : n = f.kids.length := hK.1.symm
  subst hn
  obtain ⟨bk, ok, rfl, hXk, hck⟩ := hK.2 (by omega)
  obtain ⟨z0, z1, z2, y0, y1, y2, htk⟩ := hck f.next t hkid
  obtain ⟨kk, A1, m1, g1, A2, m2, g2, rfl, rfl, rfl⟩ := htk.shape
  obtain ⟨g, cp, rfl, hg1, hg2⟩ := hown.form (by simp)
  have k0 : w.cell? ⟨g, fs.length * 4, none⟩ = some (.int .i64 f.kind) := by rw [hown.cellAt _ (by simp)]; exact c0
  have k1 : w.cell? ⟨g, fs.length * 4 + 1, none⟩ = some (.slice (some ⟨bk, ok, none⟩) f.kids.length c) := by rw [hown.cellAt _ (by simp; omega)]; exact c1
  have k2 : w.cell? ⟨g, fs.length * 4 + 2, none⟩ = some (.int .i64 (f.next : Nat)) := by rw [hown.cellAt _ (by simp; omega)]; exact c2
  have k3 : w.cell? ⟨g, fs.length * 4 + 3, none⟩ = some (.string ⟨f.behind.toArray⟩) := by rw [hown.cellAt _ (by simp; omega)]; exact c3
  obtain ⟨p, v, hp, hBb, hbk, hv⟩ := hw.split
  obtain ⟨q0, q1, q2, f0, f1, f2⟩ := blk3 hbk
  have hlw := hbk.lt
  have hown' : w.ownsRow B 131 4 (.slice (some ⟨g, 0, none⟩) (fs.length + 1) cp) (fs.length + 1) cells := by simpa using hown
  have hw' : IsW B b (Lib.byteCells o) (.slice (some ⟨g, 0, none⟩) (fs.length + 1) cp) w := by simpa using hw
  have HH := Lib.hid (And.intro hfs (And.intro hown' (And.intro hw' htk)))
  have hfx : ((f.next : Int) == (f.kids.length : Int)) = false := by simp; omega
  have hfx2 : (f.next : Int) < (f.kids.length : Int) := by omega
  have hfz : (0 : Int) ≤ (f.next : Int) := by omega
  have hfm : f.next + 1 ≤ 9223372036854775807 := by unfold maxLen at hm; omega
  have hbkg : ¬ bk = g := by omega
  have hXw : bk < w.heap.size := by omega
  have hbg : ¬ b = g := fun e => by
    have := wr_apart hbk hown
    simp [Value.ownBlock] at this
    exact this e
  have hgfz : ∀ i, w.frozen? ⟨g, i, none⟩ = false := by
    intro i
    rcases HH.out.2.1.2 with ⟨h0, _⟩ | ⟨g', c', cur, hv', _, hgg, _⟩
    · cases h0
    · injection hv' with hv' _ _
      injection hv' with hv'
      injection hv' with hv' _ _
      subst hv'
      exact Blk.frozen hgg i
  have hgf := hgfz (fs.length * 4 + 2)
  clear hw hown hfs hw' hown' htk hck hgfz
  have hkk : kindOf t = kk := by
    obtain ⟨k0, rs0, ks0⟩ := t
    exact HH.out.2.2.2.heads.1.symm
  have HS := Lib.hid (show sepT f = [] by unfold sepT; rw [if_neg (by omega)])
  have HWI := Lib.hid (show within f.kind t = false by unfold within; rw [hkk]; simp [← hkk, hw1, hw2])
  have HN := Lib.hid (show WrAt B b d o (fs ++ [{ f with next := f.next + 1 }]) (w.setCell ⟨g, fs.length * 4 + 2, none⟩ (.int .i64 ((f.next : Int) + 1))) from next_step hB hg1 hbg hnl HH.out.1 HH.out.2.1 HH.out.2.2.1)
  have HSC := Lib.hid (show (f.kind != 3) = true by simpa using hs1)
  have sa : (f.kind == 3) = false := by simpa using hs1
  have wa : (kk == 3) = false := by rw [hkk] at hw1; simpa using hw1
  have wb : (kk == 2) = false := by rw [hkk] at hw2; simpa using hw2
  clear hkk hs1
  have HBL := Lib.hid (show Below B w (w.setCell ⟨g, fs.length * 4 + 2, none⟩ (.int .i64 ((f.next : Int) + 1))) from (Below.refl B w).setCell (p := ⟨g, fs.length * 4 + 2, none⟩) hg1 _)
  have hsz : (w.setCell ⟨g, fs.length * 4 + 2, none⟩ (.int .i64 ((f.next : Int) + 1))).heap.size = w.heap.size := by simp [World.setCell]
  go_enter Try.func37, Try.ntmps37
  go_wp2_with fail
  refine (begin_any B b d o (fs ++ [{ f with next := f.next + 1 }]) _ (wr_up HN.out (by rw [hsz]; exact hB) (((Below.refl _ _).alloc (Nat.le_refl _) (.cells #[.int .i64 f.kind, .slice (some ⟨bk, ok, none⟩) f.kids.length c, .int .i64 (f.next : Nat), .string ⟨f.behind.toArray⟩] 131)).alloc (by simp) (.cells #[.int .i64 kk, .slice A1 m1 g1, .slice A2 m2 g2] 26))) (by simp [World.setCell]; omega) false t kk A1 m1 g1 A2 m2 g2 (HH.out.2.2.2.keep fun j hj => by rw [Below.heap_alloc _ _ _ (by simp [World.setCell]; omega), Below.heap_alloc _ _ _ (by rw [hsz]; omega)]; exact HBL.out.block j hj) (by first | omega | (simp; omega)) (by simp; omega)).mono ?_
  rintro e wz ⟨rfl, hz1, hz2⟩
  go_wp2
  go_end0
  refine ⟨rfl, ?_, ?_⟩
  · have e1 : o ++ (sepT f ++ nowT (within f.kind t) t) = o ++ nowT false t := by rw [HS.out, HWI.out]; simp
    rw [HWI.out, HS.out]
    simpa using hz1
  · exact ((HBL.out.alloc (by rw [hsz]; omega) (.cells #[.int .i64 f.kind, .slice (some ⟨bk, ok, none⟩) f.kids.length c, .int .i64 (f.next : Nat), .string ⟨f.behind.toArray⟩] 131)).alloc (by simp [World.setCell]; omega) (.cells #[.int .i64 kk, .slice A1 m1 g1, .slice A2 m2 g2] 26)).trans hz2
set_option maxHeartbeats 1000000 in
set_option maxRecDepth 100000 in
theorem goOn_S2_W1 (B b d : Nat) (o : List UInt8) (fs : List Fr) (f : Fr) (t : Tr) (w : World) (h : WrAt B b d o (fs ++ [f]) w) (hB : B ≤ w.heap.size) (hkid : f.kids[f.next]? = some t) (hs1 : f.kind = 3) (hs2 : f.next = 0) (hw1 : kindOf t = 3) (ho : o.length ≤ 1000000000) (hfl : fs.length ≤ 900000) :
    Calls Try.prog 37 #[.pointer (some ⟨b, 0, none⟩)] w (BPost B b d (o ++ (sepT f ++ nowT (within f.kind t) t)) (fs ++ [{ f with next := f.next + 1 }] ++ openT (within f.kind t) t) w) := by
  have hnl : f.next < f.kids.length := (List.getElem?_eq_some_iff.1 hkid).1
  obtain ⟨ov, cells, hw, hown, hfs⟩ := h
  obtain ⟨v0, v1, v2, v3, c0, c1, c2, c3, A, n, c, hvs, hm, hcp, hK, hx⟩ := hfs.2 fs.length f (by simp)
  injection hvs with hv0 hvs
  injection hvs with hv1 hvs
  injection hvs with hv2 hvs
  injection hvs with hv3 _
  subst hv0 hv1 hv2 hv3
  have hn : n = f.kids.length := hK.1.symm
  subst hn
  obtain ⟨bk, ok, rfl, hXk, hck⟩ := hK.2 (by omega)
  obtain ⟨z0, z1, z2, y0, y1, y2, htk⟩ := hck f.next t hkid
  obtain ⟨kk, A1, m1, g1, A2, m2, g2, rfl, rfl, rfl⟩ := htk.shape
  obtain ⟨g, cp, rfl, hg1, hg2⟩ := hown.form (by simp)
  have k0 : w.cell? ⟨g, fs.length * 4, none⟩ = some (.int .i64 f.kind) := by rw [hown.cellAt _ (by simp)]; exact c0
  have k1 : w.cell? ⟨g, fs.length * 4 + 1, none⟩ = some (.slice (some ⟨bk, ok, none⟩) f.kids.length c) := by rw [hown.cellAt _ (by simp; omega)]; exact c1
  have k2 : w.cell? ⟨g, fs.length * 4 + 2, none⟩ = some (.int .i64 (f.next : Nat)) := by rw [hown.cellAt _ (by simp; omega)]; exact c2
  have k3 : w.cell? ⟨g, fs.length * 4 + 3, none⟩ = some (.string ⟨f.behind.toArray⟩) := by rw [hown.cellAt _ (by simp; omega)]; exact c3
  obtain ⟨p, v, hp, hBb, hbk, hv⟩ := hw.split
  obtain ⟨q0, q1, q2, f0, f1, f2⟩ := blk3 hbk
  have hlw := hbk.lt
  have hown' : w.ownsRow B 131 4 (.slice (some ⟨g, 0, none⟩) (fs.length + 1) cp) (fs.length + 1) cells := by simpa using hown
  have hw' : IsW B b (Lib.byteCells o) (.slice (some ⟨g, 0, none⟩) (fs.length + 1) cp) w := by simpa using hw
  have HH := Lib.hid (And.intro hfs (And.intro hown' (And.intro hw' htk)))
  have hfx : ((f.next : Int) == (f.kids.length : Int)) = false := by simp; omega
  have hfx2 : (f.next : Int) < (f.kids.length : Int) := by omega
  have hfz : (0 : Int) ≤ (f.next : Int) := by omega
  have hfm : f.next + 1 ≤ 9223372036854775807 := by unfold maxLen at hm; omega
  have hbkg : ¬ bk = g := by omega
  have hXw : bk < w.heap.size := by omega
  have hbg : ¬ b = g := fun e => by
    have := wr_apart hbk hown
    simp [Value.ownBlock] at this
    exact this e
  have hgfz : ∀ i, w.frozen? ⟨g, i, none⟩ = false := by
    intro i
    rcases HH.out.2.1.2 with ⟨h0, _⟩ | ⟨g', c', cur, hv', _, hgg, _⟩
    · cases h0
    · injection hv' with hv' _ _
      injection hv' with hv'
      injection hv' with hv' _ _
      subst hv'
      exact Blk.frozen hgg i
  have hgf := hgfz (fs.length * 4 + 2)
  clear hw hown hfs hw' hown' htk hck hgfz
  have hkk : kindOf t = kk := by
    obtain ⟨k0, rs0, ks0⟩ := t
    exact HH.out.2.2.2.heads.1.symm
  have HS := Lib.hid (show sepT f = [] by unfold sepT; rw [if_neg (by omega)])
  have HWI := Lib.hid (show within f.kind t = true by unfold within; rw [hkk]; simp [← hkk, hw1])
  have HN := Lib.hid (show WrAt B b d o (fs ++ [{ f with next := f.next + 1 }]) (w.setCell ⟨g, fs.length * 4 + 2, none⟩ (.int .i64 ((f.next : Int) + 1))) from next_step hB hg1 hbg hnl HH.out.1 HH.out.2.1 HH.out.2.2.1)
  have HSC := Lib.hid (show (f.kind != 3) = false by simp [hs1])
  have sa : (f.kind == 3) = true := by simpa using hs1
  have sb : ¬ (0 : Int) < (f.next : Int) := by omega
  have wa : (kk == 3) = true := by rw [hkk] at hw1; simpa using hw1
  clear hkk hs1 hs2
  have HBL := Lib.hid (show Below B w (w.setCell ⟨g, fs.length * 4 + 2, none⟩ (.int .i64 ((f.next : Int) + 1))) from (Below.refl B w).setCell (p := ⟨g, fs.length * 4 + 2, none⟩) hg1 _)
  have hsz : (w.setCell ⟨g, fs.length * 4 + 2, none⟩ (.int .i64 ((f.next : Int) + 1))).heap.size = w.heap.size := by simp [World.setCell]
  go_enter Try.func37, Try.ntmps37
  go_wp2_with fail
  refine (begin_any B b d o (fs ++ [{ f with next := f.next + 1 }]) _ (wr_up HN.out (by rw [hsz]; exact hB) (((Below.refl _ _).alloc (Nat.le_refl _) (.cells #[.int .i64 f.kind, .slice (some ⟨bk, ok, none⟩) f.kids.length c, .int .i64 (f.next : Nat), .string ⟨f.behind.toArray⟩] 131)).alloc (by simp) (.cells #[.int .i64 kk, .slice A1 m1 g1, .slice A2 m2 g2] 26))) (by simp [World.setCell]; omega) true t kk A1 m1 g1 A2 m2 g2 (HH.out.2.2.2.keep fun j hj => by rw [Below.heap_alloc _ _ _ (by simp [World.setCell]; omega), Below.heap_alloc _ _ _ (by rw [hsz]; omega)]; exact HBL.out.block j hj) (by first | omega | (simp; omega)) (by simp; omega)).mono ?_
  rintro e wz ⟨rfl, hz1, hz2⟩
  go_wp2
  go_end0
  refine ⟨rfl, ?_, ?_⟩
  · have e1 : o ++ (sepT f ++ nowT (within f.kind t) t) = o ++ nowT true t := by rw [HS.out, HWI.out]; simp
    rw [HWI.out, HS.out]
    simpa using hz1
  · exact ((HBL.out.alloc (by rw [hsz]; omega) (.cells #[.int .i64 f.kind, .slice (some ⟨bk, ok, none⟩) f.kids.length c, .int .i64 (f.next : Nat), .string ⟨f.behind.toArray⟩] 131)).alloc (by simp [World.setCell]; omega) (.cells #[.int .i64 kk, .slice A1 m1 g1, .slice A2 m2 g2] 26)).trans hz2
set_option maxHeartbeats 1000000 in
set_option maxRecDepth 100000 in
theorem goOn_S2_W4 (B b d : Nat) (o : List UInt8) (fs : List Fr) (f : Fr) (t : Tr) (w : World) (h : WrAt B b d o (fs ++ [f]) w) (hB : B ≤ w.heap.size) (hkid : f.kids[f.next]? = some t) (hs1 : f.kind = 3) (hs2 : f.next = 0) (hw1 : kindOf t ≠ 3) (hw2 : kindOf t ≠ 2) (ho : o.length ≤ 1000000000) (hfl : fs.length ≤ 900000) :
    Calls Try.prog 37 #[.pointer (some ⟨b, 0, none⟩)] w (BPost B b d (o ++ (sepT f ++ nowT (within f.kind t) t)) (fs ++ [{ f with next := f.next + 1 }] ++ openT (within f.kind t) t) w) := by
  have hnl : f.next < f.kids.length := (List.getElem?_eq_some_iff.1 hkid).1
  obtain ⟨ov, cells, hw, hown, hfs⟩ := h
  obtain ⟨v0, v1, v2, v3, c0, c1, c2, c3, A, n, c, hvs, hm, hcp, hK, hx⟩ := hfs.2 fs.length f (by simp)
  injection hvs with hv0 hvs
  injection hvs with hv1 hvs
  injection hvs with hv2 hvs
  injection hvs with hv3 _
  subst hv0 hv1 hv2 hv3
  have hn : n = f.kids.length := hK.1.symm
  subst hn
  obtain ⟨bk, ok, rfl, hXk, hck⟩ := hK.2 (by omega)
  obtain ⟨z0, z1, z2, y0, y1, y2, htk⟩ := hck f.next t hkid
  obtain ⟨kk, A1, m1, g1, A2, m2, g2, rfl, rfl, rfl⟩ := htk.shape
  obtain ⟨g, cp, rfl, hg1, hg2⟩ := hown.form (by simp)
  have k0 : w.cell? ⟨g, fs.length * 4, none⟩ = some (.int .i64 f.kind) := by rw [hown.cellAt _ (by simp)]; exact c0
  have k1 : w.cell? ⟨g, fs.length * 4 + 1, none⟩ = some (.slice (some ⟨bk, ok, none⟩) f.kids.length c) := by rw [hown.cellAt _ (by simp; omega)]; exact c1
  have k2 : w.cell? ⟨g, fs.length * 4 + 2, none⟩ = some (.int .i64 (f.next : Nat)) := by rw [hown.cellAt _ (by simp; omega)]; exact c2
  have k3 : w.cell? ⟨g, fs.length * 4 + 3, none⟩ = some (.string ⟨f.behind.toArray⟩) := by rw [hown.cellAt _ (by simp; omega)]; exact c3
  obtain ⟨p, v, hp, hBb, hbk, hv⟩ := hw.split
  obtain ⟨q0, q1, q2, f0, f1, f2⟩ := blk3 hbk
  have hlw := hbk.lt
  have hown' : w.ownsRow B 131 4 (.slice (some ⟨g, 0, none⟩) (fs.length + 1) cp) (fs.length + 1) cells := by simpa using hown
  have hw' : IsW B b (Lib.byteCells o) (.slice (some ⟨g, 0, none⟩) (fs.length + 1) cp) w := by simpa using hw
  have HH := Lib.hid (And.intro hfs (And.intro hown' (And.intro hw' htk)))
  have hfx : ((f.next : Int) == (f.kids.length : Int)) = false := by simp; omega
  have hfx2 : (f.next : Int) < (f.kids.length : Int) := by omega
  have hfz : (0 : Int) ≤ (f.next : Int) := by omega
  have hfm : f.next + 1 ≤ 9223372036854775807 := by unfold maxLen at hm; omega
  have hbkg : ¬ bk = g := by omega
  have hXw : bk < w.heap.size := by omega
  have hbg : ¬ b = g := fun e => by
    have := wr_apart hbk hown
    simp [Value.ownBlock] at this
    exact this e
  have hgfz : ∀ i, w.frozen? ⟨g, i, none⟩ = false := by
    intro i
    rcases HH.out.2.1.2 with ⟨h0, _⟩ | ⟨g', c', cur, hv', _, hgg, _⟩
    · cases h0
    · injection hv' with hv' _ _
      injection hv' with hv'
      injection hv' with hv' _ _
      subst hv'
      exact Blk.frozen hgg i
  have hgf := hgfz (fs.length * 4 + 2)
  clear hw hown hfs hw' hown' htk hck hgfz
  have hkk : kindOf t = kk := by
    obtain ⟨k0, rs0, ks0⟩ := t
    exact HH.out.2.2.2.heads.1.symm
  have HS := Lib.hid (show sepT f = [] by unfold sepT; rw [if_neg (by omega)])
  have HWI := Lib.hid (show within f.kind t = false by unfold within; rw [hkk]; simp [← hkk, hw1, hw2])
  have HN := Lib.hid (show WrAt B b d o (fs ++ [{ f with next := f.next + 1 }]) (w.setCell ⟨g, fs.length * 4 + 2, none⟩ (.int .i64 ((f.next : Int) + 1))) from next_step hB hg1 hbg hnl HH.out.1 HH.out.2.1 HH.out.2.2.1)
  have HSC := Lib.hid (show (f.kind != 3) = false by simp [hs1])
  have sa : (f.kind == 3) = true := by simpa using hs1
  have sb : ¬ (0 : Int) < (f.next : Int) := by omega
  have wa : (kk == 3) = false := by rw [hkk] at hw1; simpa using hw1
  have wb : (kk == 2) = false := by rw [hkk] at hw2; simpa using hw2
  clear hkk hs1 hs2
  have HBL := Lib.hid (show Below B w (w.setCell ⟨g, fs.length * 4 + 2, none⟩ (.int .i64 ((f.next : Int) + 1))) from (Below.refl B w).setCell (p := ⟨g, fs.length * 4 + 2, none⟩) hg1 _)
  have hsz : (w.setCell ⟨g, fs.length * 4 + 2, none⟩ (.int .i64 ((f.next : Int) + 1))).heap.size = w.heap.size := by simp [World.setCell]
  go_enter Try.func37, Try.ntmps37
  go_wp2_with fail
  refine (begin_any B b d o (fs ++ [{ f with next := f.next + 1 }]) _ (wr_up HN.out (by rw [hsz]; exact hB) (((Below.refl _ _).alloc (Nat.le_refl _) (.cells #[.int .i64 f.kind, .slice (some ⟨bk, ok, none⟩) f.kids.length c, .int .i64 (f.next : Nat), .string ⟨f.behind.toArray⟩] 131)).alloc (by simp) (.cells #[.int .i64 kk, .slice A1 m1 g1, .slice A2 m2 g2] 26))) (by simp [World.setCell]; omega) false t kk A1 m1 g1 A2 m2 g2 (HH.out.2.2.2.keep fun j hj => by rw [Below.heap_alloc _ _ _ (by simp [World.setCell]; omega), Below.heap_alloc _ _ _ (by rw [hsz]; omega)]; exact HBL.out.block j hj) (by first | omega | (simp; omega)) (by simp; omega)).mono ?_
  rintro e wz ⟨rfl, hz1, hz2⟩
  go_wp2
  go_end0
  refine ⟨rfl, ?_, ?_⟩
  · have e1 : o ++ (sepT f ++ nowT (within f.kind t) t) = o ++ nowT false t := by rw [HS.out, HWI.out]; simp
    rw [HWI.out, HS.out]
    simpa using hz1
  · exact ((HBL.out.alloc (by rw [hsz]; omega) (.cells #[.int .i64 f.kind, .slice (some ⟨bk, ok, none⟩) f.kids.length c, .int .i64 (f.next : Nat), .string ⟨f.behind.toArray⟩] 131)).alloc (by simp [World.setCell]; omega) (.cells #[.int .i64 kk, .slice A1 m1 g1, .slice A2 m2 g2] 26)).trans hz2
set_option maxHeartbeats 1000000 in
set_option maxRecDepth 100000 in
theorem goOn_S1_W1 (B b d : Nat) (o : List UInt8) (fs : List Fr) (f : Fr) (t : Tr) (w : World) (h : WrAt B b d o (fs ++ [f]) w) (hB : B ≤ w.heap.size) (hkid : f.kids[f.next]? = some t) (hs1 : f.kind = 3) (hs2 : 0 < f.next) (hw1 : kindOf t = 3) (ho : o.length ≤ 1000000000) (hfl : fs.length ≤ 900000) :
    Calls Try.prog 37 #[.pointer (some ⟨b, 0, none⟩)] w (BPost B b d (o ++ (sepT f ++ nowT (within f.kind t) t)) (fs ++ [{ f with next := f.next + 1 }] ++ openT (within f.kind t) t) w) := by
  have hnl : f.next < f.kids.length := (List.getElem?_eq_some_iff.1 hkid).1
  obtain ⟨ov, cells, hw, hown, hfs⟩ := h
  obtain ⟨v0, v1, v2, v3, c0, c1, c2, c3, A, n, c, hvs, hm, hcp, hK, hx⟩ := hfs.2 fs.length f (by simp)
  injection hvs with hv0 hvs
  injection hvs with hv1 hvs
  injection hvs with hv2 hvs
  injection hvs with hv3 _
  subst hv0 hv1 hv2 hv3
  have hn : n = f.kids.length := hK.1.symm
  subst hn
  obtain ⟨bk, ok, rfl, hXk, hck⟩ := hK.2 (by omega)
  obtain ⟨z0, z1, z2, y0, y1, y2, htk⟩ := hck f.next t hkid
  obtain ⟨kk, A1, m1, g1, A2, m2, g2, rfl, rfl, rfl⟩ := htk.shape
  obtain ⟨g, cp, rfl, hg1, hg2⟩ := hown.form (by simp)
  have k0 : w.cell? ⟨g, fs.length * 4, none⟩ = some (.int .i64 f.kind) := by rw [hown.cellAt _ (by simp)]; exact c0
  have k1 : w.cell? ⟨g, fs.length * 4 + 1, none⟩ = some (.slice (some ⟨bk, ok, none⟩) f.kids.length c) := by rw [hown.cellAt _ (by simp; omega)]; exact c1
  have k2 : w.cell? ⟨g, fs.length * 4 + 2, none⟩ = some (.int .i64 (f.next : Nat)) := by rw [hown.cellAt _ (by simp; omega)]; exact c2
  have k3 : w.cell? ⟨g, fs.length * 4 + 3, none⟩ = some (.string ⟨f.behind.toArray⟩) := by rw [hown.cellAt _ (by simp; omega)]; exact c3
  obtain ⟨p, v, hp, hBb, hbk, hv⟩ := hw.split
  obtain ⟨q0, q1, q2, f0, f1, f2⟩ := blk3 hbk
  have hlw := hbk.lt
  have hown' : w.ownsRow B 131 4 (.slice (some ⟨g, 0, none⟩) (fs.length + 1) cp) (fs.length + 1) cells := by simpa using hown
  have hw' : IsW B b (Lib.byteCells o) (.slice (some ⟨g, 0, none⟩) (fs.length + 1) cp) w := by simpa using hw
  have HH := Lib.hid (And.intro hfs (And.intro hown' (And.intro hw' htk)))
  have hfx : ((f.next : Int) == (f.kids.length : Int)) = false := by simp; omega
  have hfx2 : (f.next : Int) < (f.kids.length : Int) := by omega
  have hfz : (0 : Int) ≤ (f.next : Int) := by omega
  have hfm : f.next + 1 ≤ 9223372036854775807 := by unfold maxLen at hm; omega
  have hbkg : ¬ bk = g := by omega
  have hXw : bk < w.heap.size := by omega
  have hbg : ¬ b = g := fun e => by
    have := wr_apart hbk hown
    simp [Value.ownBlock] at this
    exact this e
  have hgfz : ∀ i, w.frozen? ⟨g, i, none⟩ = false := by
    intro i
    rcases HH.out.2.1.2 with ⟨h0, _⟩ | ⟨g', c', cur, hv', _, hgg, _⟩
    · cases h0
    · injection hv' with hv' _ _
      injection hv' with hv'
      injection hv' with hv' _ _
      subst hv'
      exact Blk.frozen hgg i
  have hgf := hgfz (fs.length * 4 + 2)
  clear hw hown hfs hw' hown' htk hck hgfz
  have hkk : kindOf t = kk := by
    obtain ⟨k0, rs0, ks0⟩ := t
    exact HH.out.2.2.2.heads.1.symm
  have HS := Lib.hid (show sepT f = [124] by unfold sepT; rw [if_pos ⟨hs1, hs2⟩])
  have HWI := Lib.hid (show within f.kind t = true by unfold within; rw [hkk]; simp [← hkk, hw1])
  have HN := Lib.hid (show WrAt B b d o (fs ++ [{ f with next := f.next + 1 }]) (w.setCell ⟨g, fs.length * 4 + 2, none⟩ (.int .i64 ((f.next : Int) + 1))) from next_step hB hg1 hbg hnl HH.out.1 HH.out.2.1 HH.out.2.2.1)
  have HSC := Lib.hid (show (f.kind != 3) = false by simp [hs1])
  have sa : (f.kind == 3) = true := by simpa using hs1
  have sb : (0 : Int) < (f.next : Int) := by omega
  have wa : (kk == 3) = true := by rw [hkk] at hw1; simpa using hw1
  clear hkk hs1 hs2
  have HBL := Lib.hid (show Below B w (w.setCell ⟨g, fs.length * 4 + 2, none⟩ (.int .i64 ((f.next : Int) + 1))) from (Below.refl B w).setCell (p := ⟨g, fs.length * 4 + 2, none⟩) hg1 _)
  have hsz : (w.setCell ⟨g, fs.length * 4 + 2, none⟩ (.int .i64 ((f.next : Int) + 1))).heap.size = w.heap.size := by simp [World.setCell]
  go_enter Try.func37, Try.ntmps37
  go_wp2_with fail
  have hup0 : Below (w.setCell ⟨g, fs.length * 4 + 2, none⟩ (.int .i64 ((f.next : Int) + 1))).heap.size (w.setCell ⟨g, fs.length * 4 + 2, none⟩ (.int .i64 ((f.next : Int) + 1))) ((w.setCell ⟨g, fs.length * 4 + 2, none⟩ (.int .i64 ((f.next : Int) + 1))).alloc (.cells #[.int .i64 f.kind, .slice (some ⟨bk, ok, none⟩) f.kids.length c, .int .i64 (f.next : Nat), .string ⟨f.behind.toArray⟩] 131)) := (Below.refl _ _).alloc (Nat.le_refl _) _
  have HN1 := wr_up HN.out (by rw [hsz]; exact hB) hup0
  obtain ⟨ov1, cells1, hw1, hown1, hfs1⟩ := HN1
  refine (wByte B b _ ov1 124 _ hw1 (by simp [Lib.byteCells_length]; omega) (by simp [World.setCell]; omega)).mono ?_
  rintro e u ⟨rfl, hwu, bu, hku⟩
  have hbO : Blk u w.heap.size 131 #[.int .i64 f.kind, .slice (some ⟨bk, ok, none⟩) f.kids.length c, .int .i64 (f.next : Nat), .string ⟨f.behind.toArray⟩] := hku _ _ _ (by decide) (by decide) (by have := Blk.new (w.setCell ⟨g, fs.length * 4 + 2, none⟩ (.int .i64 ((f.next : Int) + 1))) 131 #[.int .i64 f.kind, .slice (some ⟨bk, ok, none⟩) f.kids.length c, .int .i64 (f.next : Nat), .string ⟨f.behind.toArray⟩]; rw [hsz] at this; exact this)
  have o0 := hbO.cell 0
  have o1 := hbO.cell 1
  have o2 := hbO.cell 2
  simp only [List.getElem?_toArray, List.getElem?_cons_zero, List.getElem?_cons_succ] at o0 o1 o2
  have hlO := hbO.lt
  have hlow : ∀ j, j < B → u.heap[j]? = w.heap[j]? := fun j hj => by rw [bu.block j hj, hup0.block j (by rw [hsz]; omega)]; exact HBL.out.block j hj
  have x0 : u.cell? ⟨bk, ok + f.next * 3, none⟩ = some (.int .i64 kk) := by rw [World.cell?_of_block (a := ⟨bk, ok + f.next * 3, none⟩) (hlow bk hXk)]; exact y0
  have x1 : u.cell? ⟨bk, ok + f.next * 3 + 1, none⟩ = some (.slice A1 m1 g1) := by rw [World.cell?_of_block (a := ⟨bk, ok + f.next * 3 + 1, none⟩) (hlow bk hXk)]; exact y1
  have x2 : u.cell? ⟨bk, ok + f.next * 3 + 2, none⟩ = some (.slice A2 m2 g2) := by rw [World.cell?_of_block (a := ⟨bk, ok + f.next * 3 + 2, none⟩) (hlow bk hXk)]; exact y2
  have HNU := Lib.hid (show WrAt B b d (o ++ [124]) (fs ++ [{ f with next := f.next + 1 }]) u from ⟨ov1, cells1, by rw [bytes_app]; exact hwu, keepsO_own hown1 hku, hfs1.keep fun j hj => bu.block j hj⟩)
  have HTU := Lib.hid (HH.out.2.2.2.keep (w' := u) hlow)
  have hBu : B ≤ u.heap.size := by omega
  have HBU := Lib.hid (show Below B w u from (HBL.out.trans (hup0.mono (by rw [hsz]; exact hB))).trans bu)
  clear hw1 hown1 hfs1 hwu hku bu hup0 k0 k1 k2 k3 q0 q1 q2 y0 y1 y2
  go_wp2_with fail
  refine (begin_any B b d (o ++ [124]) (fs ++ [{ f with next := f.next + 1 }]) _ (wr_up HNU.out hBu ((Below.refl _ _).alloc (Nat.le_refl _) (.cells #[.int .i64 kk, .slice A1 m1 g1, .slice A2 m2 g2] 26))) (by simp; omega) true t kk A1 m1 g1 A2 m2 g2 (HTU.out.keep fun j hj => Below.heap_alloc _ _ _ (by omega)) (by first | omega | (simp; omega)) (by simp; omega)).mono ?_
  rintro e wz ⟨rfl, hz1, hz2⟩
  go_wp2
  go_end0
  refine ⟨rfl, ?_, ?_⟩
  · have e1 : o ++ (sepT f ++ nowT (within f.kind t) t) = (o ++ [124]) ++ nowT true t := by rw [HS.out, HWI.out]; simp
    rw [HWI.out, HS.out]
    simpa using hz1
  · exact (HBU.out.alloc hBu (.cells #[.int .i64 kk, .slice A1 m1 g1, .slice A2 m2 g2] 26)).trans hz2
set_option maxHeartbeats 1000000 in
set_option maxRecDepth 100000 in
theorem goOn_S1_W4 (B b d : Nat) (o : List UInt8) (fs : List Fr) (f : Fr) (t : Tr) (w : World) (h : WrAt B b d o (fs ++ [f]) w) (hB : B ≤ w.heap.size) (hkid : f.kids[f.next]? = some t) (hs1 : f.kind = 3) (hs2 : 0 < f.next) (hw1 : kindOf t ≠ 3) (hw2 : kindOf t ≠ 2) (ho : o.length ≤ 1000000000) (hfl : fs.length ≤ 900000) :
    Calls Try.prog 37 #[.pointer (some ⟨b, 0, none⟩)] w (BPost B b d (o ++ (sepT f ++ nowT (within f.kind t) t)) (fs ++ [{ f with next := f.next + 1 }] ++ openT (within f.kind t) t) w) := by
  have hnl : f.next < f.kids.length := (List.getElem?_eq_some_iff.1 hkid).1
  obtain ⟨ov, cells, hw, hown, hfs⟩ := h
  obtain ⟨v0, v1, v2, v3, c0, c1, c2, c3, A, n, c, hvs, hm, hcp, hK, hx⟩ := hfs.2 fs.length f (by simp)
  injection hvs with hv0 hvs
  injection hvs with hv1 hvs
  injection hvs with hv2 hvs
  injection hvs with hv3 _
  subst hv0 hv1 hv2 hv3
  have hn : n = f.kids.length := hK.1.symm
  subst hn
  obtain ⟨bk, ok, rfl, hXk, hck⟩ := hK.2 (by omega)
  obtain ⟨z0, z1, z2, y0, y1, y2, htk⟩ := hck f.next t hkid
  obtain ⟨kk, A1, m1, g1, A2, m2, g2, rfl, rfl, rfl⟩ := htk.shape
  obtain ⟨g, cp, rfl, hg1, hg2⟩ := hown.form (by simp)
  have k0 : w.cell? ⟨g, fs.length * 4, none⟩ = some (.int .i64 f.kind) := by rw [hown.cellAt _ (by simp)]; exact c0
  have k1 : w.cell? ⟨g, fs.length * 4 + 1, none⟩ = some (.slice (some ⟨bk, ok, none⟩) f.kids.length c) := by rw [hown.cellAt _ (by simp; omega)]; exact c1
  have k2 : w.cell? ⟨g, fs.length * 4 + 2, none⟩ = some (.int .i64 (f.next : Nat)) := by rw [hown.cellAt _ (by simp; omega)]; exact c2
  have k3 : w.cell? ⟨g, fs.length * 4 + 3, none⟩ = some (.string ⟨f.behind.toArray⟩) := by rw [hown.cellAt _ (by simp; omega)]; exact c3
  obtain ⟨p, v, hp, hBb, hbk, hv⟩ := hw.split
  obtain ⟨q0, q1, q2, f0, f1, f2⟩ := blk3 hbk
  have hlw := hbk.lt
  have hown' : w.ownsRow B 131 4 (.slice (some ⟨g, 0, none⟩) (fs.length + 1) cp) (fs.length + 1) cells := by simpa using hown
  have hw' : IsW B b (Lib.byteCells o) (.slice (some ⟨g, 0, none⟩) (fs.length + 1) cp) w := by simpa using hw
  have HH := Lib.hid (And.intro hfs (And.intro hown' (And.intro hw' htk)))
  have hfx : ((f.next : Int) == (f.kids.length : Int)) = false := by simp; omega
  have hfx2 : (f.next : Int) < (f.kids.length : Int) := by omega
  have hfz : (0 : Int) ≤ (f.next : Int) := by omega
  have hfm : f.next + 1 ≤ 9223372036854775807 := by unfold maxLen at hm; omega
  have hbkg : ¬ bk = g := by omega
  have hXw : bk < w.heap.size := by omega
  have hbg : ¬ b = g := fun e => by
    have := wr_apart hbk hown
    simp [Value.ownBlock] at this
    exact this e
  have hgfz : ∀ i, w.frozen? ⟨g, i, none⟩ = false := by
    intro i
    rcases HH.out.2.1.2 with ⟨h0, _⟩ | ⟨g', c', cur, hv', _, hgg, _⟩
    · cases h0
    · injection hv' with hv' _ _
      injection hv' with hv'
      injection hv' with hv' _ _
      subst hv'
      exact Blk.frozen hgg i
  have hgf := hgfz (fs.length * 4 + 2)
  clear hw hown hfs hw' hown' htk hck hgfz
  have hkk : kindOf t = kk := by
    obtain ⟨k0, rs0, ks0⟩ := t
    exact HH.out.2.2.2.heads.1.symm
  have HS := Lib.hid (show sepT f = [124] by unfold sepT; rw [if_pos ⟨hs1, hs2⟩])
  have HWI := Lib.hid (show within f.kind t = false by unfold within; rw [hkk]; simp [← hkk, hw1, hw2])
  have HN := Lib.hid (show WrAt B b d o (fs ++ [{ f with next := f.next + 1 }]) (w.setCell ⟨g, fs.length * 4 + 2, none⟩ (.int .i64 ((f.next : Int) + 1))) from next_step hB hg1 hbg hnl HH.out.1 HH.out.2.1 HH.out.2.2.1)
  have HSC := Lib.hid (show (f.kind != 3) = false by simp [hs1])
  have sa : (f.kind == 3) = true := by simpa using hs1
  have sb : (0 : Int) < (f.next : Int) := by omega
  have wa : (kk == 3) = false := by rw [hkk] at hw1; simpa using hw1
  have wb : (kk == 2) = false := by rw [hkk] at hw2; simpa using hw2
  clear hkk hs1 hs2
  have HBL := Lib.hid (show Below B w (w.setCell ⟨g, fs.length * 4 + 2, none⟩ (.int .i64 ((f.next : Int) + 1))) from (Below.refl B w).setCell (p := ⟨g, fs.length * 4 + 2, none⟩) hg1 _)
  have hsz : (w.setCell ⟨g, fs.length * 4 + 2, none⟩ (.int .i64 ((f.next : Int) + 1))).heap.size = w.heap.size := by simp [World.setCell]
  go_enter Try.func37, Try.ntmps37
  go_wp2_with fail
  have hup0 : Below (w.setCell ⟨g, fs.length * 4 + 2, none⟩ (.int .i64 ((f.next : Int) + 1))).heap.size (w.setCell ⟨g, fs.length * 4 + 2, none⟩ (.int .i64 ((f.next : Int) + 1))) ((w.setCell ⟨g, fs.length * 4 + 2, none⟩ (.int .i64 ((f.next : Int) + 1))).alloc (.cells #[.int .i64 f.kind, .slice (some ⟨bk, ok, none⟩) f.kids.length c, .int .i64 (f.next : Nat), .string ⟨f.behind.toArray⟩] 131)) := (Below.refl _ _).alloc (Nat.le_refl _) _
  have HN1 := wr_up HN.out (by rw [hsz]; exact hB) hup0
  obtain ⟨ov1, cells1, hw1, hown1, hfs1⟩ := HN1
  refine (wByte B b _ ov1 124 _ hw1 (by simp [Lib.byteCells_length]; omega) (by simp [World.setCell]; omega)).mono ?_
  rintro e u ⟨rfl, hwu, bu, hku⟩
  have hbO : Blk u w.heap.size 131 #[.int .i64 f.kind, .slice (some ⟨bk, ok, none⟩) f.kids.length c, .int .i64 (f.next : Nat), .string ⟨f.behind.toArray⟩] := hku _ _ _ (by decide) (by decide) (by have := Blk.new (w.setCell ⟨g, fs.length * 4 + 2, none⟩ (.int .i64 ((f.next : Int) + 1))) 131 #[.int .i64 f.kind, .slice (some ⟨bk, ok, none⟩) f.kids.length c, .int .i64 (f.next : Nat), .string ⟨f.behind.toArray⟩]; rw [hsz] at this; exact this)
  have o0 := hbO.cell 0
  have o1 := hbO.cell 1
  have o2 := hbO.cell 2
  simp only [List.getElem?_toArray, List.getElem?_cons_zero, List.getElem?_cons_succ] at o0 o1 o2
  have hlO := hbO.lt
  have hlow : ∀ j, j < B → u.heap[j]? = w.heap[j]? := fun j hj => by rw [bu.block j hj, hup0.block j (by rw [hsz]; omega)]; exact HBL.out.block j hj
  have x0 : u.cell? ⟨bk, ok + f.next * 3, none⟩ = some (.int .i64 kk) := by rw [World.cell?_of_block (a := ⟨bk, ok + f.next * 3, none⟩) (hlow bk hXk)]; exact y0
  have x1 : u.cell? ⟨bk, ok + f.next * 3 + 1, none⟩ = some (.slice A1 m1 g1) := by rw [World.cell?_of_block (a := ⟨bk, ok + f.next * 3 + 1, none⟩) (hlow bk hXk)]; exact y1
  have x2 : u.cell? ⟨bk, ok + f.next * 3 + 2, none⟩ = some (.slice A2 m2 g2) := by rw [World.cell?_of_block (a := ⟨bk, ok + f.next * 3 + 2, none⟩) (hlow bk hXk)]; exact y2
  have HNU := Lib.hid (show WrAt B b d (o ++ [124]) (fs ++ [{ f with next := f.next + 1 }]) u from ⟨ov1, cells1, by rw [bytes_app]; exact hwu, keepsO_own hown1 hku, hfs1.keep fun j hj => bu.block j hj⟩)
  have HTU := Lib.hid (HH.out.2.2.2.keep (w' := u) hlow)
  have hBu : B ≤ u.heap.size := by omega
  have HBU := Lib.hid (show Below B w u from (HBL.out.trans (hup0.mono (by rw [hsz]; exact hB))).trans bu)
  clear hw1 hown1 hfs1 hwu hku bu hup0 k0 k1 k2 k3 q0 q1 q2 y0 y1 y2
  go_wp2_with fail
  refine (begin_any B b d (o ++ [124]) (fs ++ [{ f with next := f.next + 1 }]) _ (wr_up HNU.out hBu ((Below.refl _ _).alloc (Nat.le_refl _) (.cells #[.int .i64 kk, .slice A1 m1 g1, .slice A2 m2 g2] 26))) (by simp; omega) false t kk A1 m1 g1 A2 m2 g2 (HTU.out.keep fun j hj => Below.heap_alloc _ _ _ (by omega)) (by first | omega | (simp; omega)) (by simp; omega)).mono ?_
  rintro e wz ⟨rfl, hz1, hz2⟩
  go_wp2
  go_end0
  refine ⟨rfl, ?_, ?_⟩
  · have e1 : o ++ (sepT f ++ nowT (within f.kind t) t) = (o ++ [124]) ++ nowT false t := by rw [HS.out, HWI.out]; simp
    rw [HWI.out, HS.out]
    simpa using hz1
  · exact (HBU.out.alloc hBu (.cells #[.int .i64 kk, .slice A1 m1 g1, .slice A2 m2 g2] 26)).trans hz2
end Go.Proofs.Ytjnhmcgjeljcmaa
