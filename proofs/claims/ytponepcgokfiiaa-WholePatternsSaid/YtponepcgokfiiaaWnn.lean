/- rex.writer.begin: a Cat or an Alt, without ( ). rex.writer.begin: a Cat or an Alt in ( ). rex.writer.begin: a Star, Plus or Maybe. rex.writer.begin, all nodes. -/
import Derived.Test.YtponepcgokfiiaaWn
import Derived.Deep.RegionHeld3
import Derived.Test.YtponepcgokfiiaaXw
namespace Go.Proofs.Ytponepcgokfiiaa
open Go.RowKit

set_option maxHeartbeats 1000000 in
set_option maxRecDepth 100000 in
theorem begin_2_n (B b d : Nat) (o : List UInt8) (fs : List Fr) (w : World) (h : WrAt B b d o fs w) (hB : B ≤ w.heap.size) (rs : List (UInt8 × UInt8)) (kids : List Tr) (A : Option Addr) (n c : Nat) (A' : Option Addr) (n' c' : Nat)
    (ht : TreeAt w (· < B) d (.mk 2 rs kids) [.int .i64 2, .slice A n c, .slice A' n' c']) (hfl : fs.length ≤ 1000000) :
    Calls Try.prog 48 #[.pointer (some ⟨b, 0, none⟩), .agg #[.int .i64 2, .slice A n c, .slice A' n' c'], .bool false] w (BPost B b d o (fs ++ [⟨2, kids, 0, []⟩]) w) := by
  obtain ⟨i0, hi0, hz0, hz1, hz2⟩ := info_parts openInfo
  obtain ⟨ov, cells, hw, hown, hfs⟩ := h
  have hlb := hw.lt
  obtain ⟨d, rfl⟩ : ∃ d', d = d' + 1 := by cases d with | zero => exact ht.elim | succ d => exact ⟨d, rfl⟩
  obtain ⟨A1, n1, c1, A2, n2, c2, e0, e1, e2, hn1, hcp, hrg, hkd⟩ := ht.parts
  injection e2 with e2 e2' e2''
  subst e2 e2' e2''
  have HF := Lib.hid (show FrAt w (· < B) (d + 1) ⟨2, kids, 0, []⟩ [.int .i64 2, .slice A' n' c', .int .i64 0, .string ⟨#[]⟩] from ⟨A', n', c', rfl, hcp.1, hcp.2, hkd.deeper (Nat.le_succ _), Nat.zero_le _⟩)
  clear ht e1 e0 hkd hrg
  obtain ⟨p, v, hp, hBb, hbk, hv⟩ := hw.split
  obtain ⟨q0, q1, q2, f0, f1, f2⟩ := blk3 hbk
  have hlw := hbk.lt
  have hne0 := wr_apart hbk hown
  have hne1 : some w.heap.size ≠ ov.ownBlock := fun e => by have := (hown.lt _ e.symm).2; omega
  clear hw
  go_enter Try.func48, Try.ntmps48
  go_wp2
  go_region_law (refine step_append_lies _ (by rfl) (.tmp 30) (.tmp 37) 107 (by rfl) B 159 i0 _ 4 56 Try.underlying107 hi0 hz0 hz1 hz2 rfl (by decide) _ fs.length cells (by rfl) (by exact (hown.alloc _).alloc _) ⟨w.heap.size + 1, 0, none⟩ 1 1 [.int .i64 2, .slice A' n' c', .int .i64 0, .string ⟨#[]⟩] (by rfl) rfl (by exact World.news_of_block (by exact heap_alloc_new2 w _ _)) (four_one _ _ _ _ _ _) (by decide) (by unfold maxLen; omega) (by omega) (by simp; omega) _ (by rfl) ?_; intro g2 cap2 w2 hown2 hgrow hat hlt2; have hq2 : Blk w2 b 109 #[p, v, ov] := Blk.grown (by exact (hbk.alloc _).alloc _) hgrow hne0; have k2 : w2.cell? ⟨b, 2, none⟩ = some ov := hq2.cell 2; have j2 : w2.frozen? ⟨b, 2, none⟩ = false := hq2.frozen 2)
  all_goals
    go_wp2
    go_end0
    refine ⟨rfl, ?_⟩
    exact open_step hp hB hBb hbk hv hown hfs (w1 := (w.alloc (.cells #[.int .i64 2, .slice A n c, .slice A' n' c'] 30)).alloc (.cells #[.int .i64 2, .slice A' n' c', .int .i64 0, .string ⟨#[]⟩] 159)) (((Below.refl _ w).alloc (Nat.le_refl _) _).alloc (by simp) _) ⟨hgrow.os, hgrow.tape, hgrow.output, hgrow.size, hgrow.block⟩ hown2 HF.out

set_option maxHeartbeats 1000000 in
set_option maxRecDepth 100000 in
theorem begin_3_n (B b d : Nat) (o : List UInt8) (fs : List Fr) (w : World) (h : WrAt B b d o fs w) (hB : B ≤ w.heap.size) (rs : List (UInt8 × UInt8)) (kids : List Tr) (A : Option Addr) (n c : Nat) (A' : Option Addr) (n' c' : Nat)
    (ht : TreeAt w (· < B) d (.mk 3 rs kids) [.int .i64 3, .slice A n c, .slice A' n' c']) (hfl : fs.length ≤ 1000000) :
    Calls Try.prog 48 #[.pointer (some ⟨b, 0, none⟩), .agg #[.int .i64 3, .slice A n c, .slice A' n' c'], .bool false] w (BPost B b d o (fs ++ [⟨3, kids, 0, []⟩]) w) := by
  obtain ⟨i0, hi0, hz0, hz1, hz2⟩ := info_parts openInfo
  obtain ⟨ov, cells, hw, hown, hfs⟩ := h
  have hlb := hw.lt
  obtain ⟨d, rfl⟩ : ∃ d', d = d' + 1 := by cases d with | zero => exact ht.elim | succ d => exact ⟨d, rfl⟩
  obtain ⟨A1, n1, c1, A2, n2, c2, e0, e1, e2, hn1, hcp, hrg, hkd⟩ := ht.parts
  injection e2 with e2 e2' e2''
  subst e2 e2' e2''
  have HF := Lib.hid (show FrAt w (· < B) (d + 1) ⟨3, kids, 0, []⟩ [.int .i64 3, .slice A' n' c', .int .i64 0, .string ⟨#[]⟩] from ⟨A', n', c', rfl, hcp.1, hcp.2, hkd.deeper (Nat.le_succ _), Nat.zero_le _⟩)
  clear ht e1 e0 hkd hrg
  obtain ⟨p, v, hp, hBb, hbk, hv⟩ := hw.split
  obtain ⟨q0, q1, q2, f0, f1, f2⟩ := blk3 hbk
  have hlw := hbk.lt
  have hne0 := wr_apart hbk hown
  have hne1 : some w.heap.size ≠ ov.ownBlock := fun e => by have := (hown.lt _ e.symm).2; omega
  clear hw
  go_enter Try.func48, Try.ntmps48
  go_wp2
  go_region_law (refine step_append_lies _ (by rfl) (.tmp 30) (.tmp 37) 107 (by rfl) B 159 i0 _ 4 56 Try.underlying107 hi0 hz0 hz1 hz2 rfl (by decide) _ fs.length cells (by rfl) (by exact (hown.alloc _).alloc _) ⟨w.heap.size + 1, 0, none⟩ 1 1 [.int .i64 3, .slice A' n' c', .int .i64 0, .string ⟨#[]⟩] (by rfl) rfl (by exact World.news_of_block (by exact heap_alloc_new2 w _ _)) (four_one _ _ _ _ _ _) (by decide) (by unfold maxLen; omega) (by omega) (by simp; omega) _ (by rfl) ?_; intro g2 cap2 w2 hown2 hgrow hat hlt2; have hq2 : Blk w2 b 109 #[p, v, ov] := Blk.grown (by exact (hbk.alloc _).alloc _) hgrow hne0; have k2 : w2.cell? ⟨b, 2, none⟩ = some ov := hq2.cell 2; have j2 : w2.frozen? ⟨b, 2, none⟩ = false := hq2.frozen 2)
  all_goals
    go_wp2
    go_end0
    refine ⟨rfl, ?_⟩
    exact open_step hp hB hBb hbk hv hown hfs (w1 := (w.alloc (.cells #[.int .i64 3, .slice A n c, .slice A' n' c'] 30)).alloc (.cells #[.int .i64 3, .slice A' n' c', .int .i64 0, .string ⟨#[]⟩] 159)) (((Below.refl _ w).alloc (Nat.le_refl _) _).alloc (by simp) _) ⟨hgrow.os, hgrow.tape, hgrow.output, hgrow.size, hgrow.block⟩ hown2 HF.out
end Go.Proofs.Ytponepcgokfiiaa
namespace Go.Proofs.Ytponepcgokfiiaa
open Go.RowKit

set_option maxHeartbeats 1000000 in
set_option maxRecDepth 100000 in
theorem begin_2_w (B b d : Nat) (o : List UInt8) (fs : List Fr) (w : World) (h : WrAt B b d o fs w) (hB : B ≤ w.heap.size) (rs : List (UInt8 × UInt8)) (kids : List Tr) (A : Option Addr) (n c : Nat) (A' : Option Addr) (n' c' : Nat)
    (ht : TreeAt w (· < B) d (.mk 2 rs kids) [.int .i64 2, .slice A n c, .slice A' n' c']) (hfl : fs.length ≤ 1000000) (ho : o.length ≤ 35184372088832) :
    Calls Try.prog 48 #[.pointer (some ⟨b, 0, none⟩), .agg #[.int .i64 2, .slice A n c, .slice A' n' c'], .bool true] w (BPost B b d (o ++ [40]) (fs ++ [⟨2, kids, 0, [41]⟩]) w) := by
  obtain ⟨i0, hi0, hz0, hz1, hz2⟩ := info_parts openInfo
  obtain ⟨ov, cells, hw, hown, hfs⟩ := h
  have hlb := hw.lt
  obtain ⟨d, rfl⟩ : ∃ d', d = d' + 1 := by cases d with | zero => exact ht.elim | succ d => exact ⟨d, rfl⟩
  obtain ⟨A1, n1, c1, A2, n2, c2, e0, e1, e2, hn1, hcp, hrg, hkd⟩ := ht.parts
  injection e2 with e2 e2' e2''
  subst e2 e2' e2''
  have HF := Lib.hid (show FrAt w (· < B) (d + 1) ⟨2, kids, 0, [41]⟩ [.int .i64 2, .slice A' n' c', .int .i64 0, .string ⟨#[41]⟩] from ⟨A', n', c', rfl, hcp.1, hcp.2, hkd.deeper (Nat.le_succ _), Nat.zero_le _⟩)
  clear ht e1 e0 hkd hrg
  go_enter Try.func48, Try.ntmps48
  go_wp2_with fail
  have hb0 : Below w.heap.size w (w.alloc (.cells #[.int .i64 2, .slice A n c, .slice A' n' c'] 30)) := (Below.refl _ w).alloc (Nat.le_refl _) _
  refine (wByte B b _ ov 40 _ (isw_below hw hb0) (by simp [Lib.byteCells_length]; omega) (by simp; omega)).mono ?_
  rintro e u ⟨rfl, hwu, bu, hku⟩
  have hlu := hwu.lt
  have hownu := keepsO_own (own_below hown hb0) hku
  have hbN : Blk u w.heap.size 30 #[.int .i64 2, .slice A n c, .slice A' n' c'] := hku _ _ _ (by decide) (by decide) (Blk.new w 30 _)
  obtain ⟨r0, r1, r2, _, _, _⟩ := blk3 hbN
  have hlN := hbN.lt
  obtain ⟨p, v, hp, hBb, hbk, hv⟩ := hwu.split
  obtain ⟨q0, q1, q2, f0, f1, f2⟩ := blk3 hbk
  have hne0 := wr_apart hbk hownu
  have HU := Lib.hid (And.intro hwu (And.intro bu hv))
  clear hwu hku
  go_wp2
  go_region_law (refine step_append_lies _ (by rfl) (.tmp 30) (.tmp 37) 107 (by rfl) B 159 i0 _ 4 56 Try.underlying107 hi0 hz0 hz1 hz2 rfl (by decide) _ fs.length cells (by rfl) (by exact hownu.alloc _) ⟨u.heap.size, 0, none⟩ 1 1 [.int .i64 2, .slice A' n' c', .int .i64 0, .string ⟨#[41]⟩] (by rfl) rfl (by exact World.news_of_block (by exact heap_alloc_new u _)) (four_one _ _ _ _ _ _) (by decide) (by unfold maxLen; omega) (by omega) (by simp; omega) _ (by rfl) ?_; intro g2 cap2 w2 hown2 hgrow hat hlt2; have hq2 : Blk w2 b 109 #[p, v, ov] := Blk.grown (by exact hbk.alloc _) hgrow hne0; have k2 : w2.cell? ⟨b, 2, none⟩ = some ov := hq2.cell 2; have j2 : w2.frozen? ⟨b, 2, none⟩ = false := hq2.frozen 2)
  all_goals
    go_wp2
    go_end0
    refine ⟨rfl, ?_⟩
    have hlow : ∀ j, j < B → u.heap[j]? = w.heap[j]? := fun j hj => (HU.out.2.1.block j hj).trans (hb0.block j (by omega))
    have hfu : FrAt u (· < B) (d + 1) ⟨2, kids, 0, [41]⟩ [.int .i64 2, .slice A' n' c', .int .i64 0, .string ⟨#[41]⟩] := by
      obtain ⟨Q, m, z, hv', hm, hc, hK, hx⟩ := HF.out
      exact ⟨Q, m, z, hv', hm, hc, hK.keep hlow, hx⟩
    have hvu : u.ownsRow B 5 1 v (Lib.byteCells (o ++ [40])).length (Lib.byteCells (o ++ [40])) := by rw [bytes_app]; exact HU.out.2.2
    have := open_step hp (by omega) hBb hbk hvu hownu (hfs.keep hlow) (w1 := u.alloc (.cells #[.int .i64 2, .slice A' n' c', .int .i64 0, .string ⟨#[41]⟩] 159)) ((Below.refl _ u).alloc (Nat.le_refl _) _) ⟨hgrow.os, hgrow.tape, hgrow.output, hgrow.size, hgrow.block⟩ hown2 hfu
    exact ⟨this.1, ((hb0.mono hB).trans HU.out.2.1).trans this.2⟩

set_option maxHeartbeats 1000000 in
set_option maxRecDepth 100000 in
theorem begin_3_w (B b d : Nat) (o : List UInt8) (fs : List Fr) (w : World) (h : WrAt B b d o fs w) (hB : B ≤ w.heap.size) (rs : List (UInt8 × UInt8)) (kids : List Tr) (A : Option Addr) (n c : Nat) (A' : Option Addr) (n' c' : Nat)
    (ht : TreeAt w (· < B) d (.mk 3 rs kids) [.int .i64 3, .slice A n c, .slice A' n' c']) (hfl : fs.length ≤ 1000000) (ho : o.length ≤ 35184372088832) :
    Calls Try.prog 48 #[.pointer (some ⟨b, 0, none⟩), .agg #[.int .i64 3, .slice A n c, .slice A' n' c'], .bool true] w (BPost B b d (o ++ [40]) (fs ++ [⟨3, kids, 0, [41]⟩]) w) := by
  obtain ⟨i0, hi0, hz0, hz1, hz2⟩ := info_parts openInfo
  obtain ⟨ov, cells, hw, hown, hfs⟩ := h
  have hlb := hw.lt
  obtain ⟨d, rfl⟩ : ∃ d', d = d' + 1 := by cases d with | zero => exact ht.elim | succ d => exact ⟨d, rfl⟩
  obtain ⟨A1, n1, c1, A2, n2, c2, e0, e1, e2, hn1, hcp, hrg, hkd⟩ := ht.parts
  injection e2 with e2 e2' e2''
  subst e2 e2' e2''
  have HF := Lib.hid (show FrAt w (· < B) (d + 1) ⟨3, kids, 0, [41]⟩ [.int .i64 3, .slice A' n' c', .int .i64 0, .string ⟨#[41]⟩] from ⟨A', n', c', rfl, hcp.1, hcp.2, hkd.deeper (Nat.le_succ _), Nat.zero_le _⟩)
  clear ht e1 e0 hkd hrg
  go_enter Try.func48, Try.ntmps48
  go_wp2_with fail
  have hb0 : Below w.heap.size w (w.alloc (.cells #[.int .i64 3, .slice A n c, .slice A' n' c'] 30)) := (Below.refl _ w).alloc (Nat.le_refl _) _
  refine (wByte B b _ ov 40 _ (isw_below hw hb0) (by simp [Lib.byteCells_length]; omega) (by simp; omega)).mono ?_
  rintro e u ⟨rfl, hwu, bu, hku⟩
  have hlu := hwu.lt
  have hownu := keepsO_own (own_below hown hb0) hku
  have hbN : Blk u w.heap.size 30 #[.int .i64 3, .slice A n c, .slice A' n' c'] := hku _ _ _ (by decide) (by decide) (Blk.new w 30 _)
  obtain ⟨r0, r1, r2, _, _, _⟩ := blk3 hbN
  have hlN := hbN.lt
  obtain ⟨p, v, hp, hBb, hbk, hv⟩ := hwu.split
  obtain ⟨q0, q1, q2, f0, f1, f2⟩ := blk3 hbk
  have hne0 := wr_apart hbk hownu
  have HU := Lib.hid (And.intro hwu (And.intro bu hv))
  clear hwu hku
  go_wp2
  go_region_law (refine step_append_lies _ (by rfl) (.tmp 30) (.tmp 37) 107 (by rfl) B 159 i0 _ 4 56 Try.underlying107 hi0 hz0 hz1 hz2 rfl (by decide) _ fs.length cells (by rfl) (by exact hownu.alloc _) ⟨u.heap.size, 0, none⟩ 1 1 [.int .i64 3, .slice A' n' c', .int .i64 0, .string ⟨#[41]⟩] (by rfl) rfl (by exact World.news_of_block (by exact heap_alloc_new u _)) (four_one _ _ _ _ _ _) (by decide) (by unfold maxLen; omega) (by omega) (by simp; omega) _ (by rfl) ?_; intro g2 cap2 w2 hown2 hgrow hat hlt2; have hq2 : Blk w2 b 109 #[p, v, ov] := Blk.grown (by exact hbk.alloc _) hgrow hne0; have k2 : w2.cell? ⟨b, 2, none⟩ = some ov := hq2.cell 2; have j2 : w2.frozen? ⟨b, 2, none⟩ = false := hq2.frozen 2)
  all_goals
    go_wp2
    go_end0
    refine ⟨rfl, ?_⟩
    have hlow : ∀ j, j < B → u.heap[j]? = w.heap[j]? := fun j hj => (HU.out.2.1.block j hj).trans (hb0.block j (by omega))
    have hfu : FrAt u (· < B) (d + 1) ⟨3, kids, 0, [41]⟩ [.int .i64 3, .slice A' n' c', .int .i64 0, .string ⟨#[41]⟩] := by
      obtain ⟨Q, m, z, hv', hm, hc, hK, hx⟩ := HF.out
      exact ⟨Q, m, z, hv', hm, hc, hK.keep hlow, hx⟩
    have hvu : u.ownsRow B 5 1 v (Lib.byteCells (o ++ [40])).length (Lib.byteCells (o ++ [40])) := by rw [bytes_app]; exact HU.out.2.2
    have := open_step hp (by omega) hBb hbk hvu hownu (hfs.keep hlow) (w1 := u.alloc (.cells #[.int .i64 3, .slice A' n' c', .int .i64 0, .string ⟨#[41]⟩] 159)) ((Below.refl _ u).alloc (Nat.le_refl _) _) ⟨hgrow.os, hgrow.tape, hgrow.output, hgrow.size, hgrow.block⟩ hown2 hfu
    exact ⟨this.1, ((hb0.mono hB).trans HU.out.2.1).trans this.2⟩
end Go.Proofs.Ytponepcgokfiiaa
namespace Go.Proofs.Ytponepcgokfiiaa
open Go.RowKit

set_option maxHeartbeats 1000000 in
set_option maxRecDepth 100000 in
theorem begin_sign (B b d : Nat) (o : List UInt8) (fs : List Fr) (w : World) (h : WrAt B b d o fs w) (hB : B ≤ w.heap.size) (k : Int) (hk : k = 4 ∨ k = 5 ∨ k = 6) (wi : Bool) (rs : List (UInt8 × UInt8)) (t0 : Tr) (kids : List Tr) (A : Option Addr) (n c : Nat) (A' : Option Addr) (n' c' : Nat)
    (ht : TreeAt w (· < B) d (.mk k rs (t0 :: kids)) [.int .i64 k, .slice A n c, .slice A' n' c']) (hfl : fs.length ≤ 1000000) :
    Calls Try.prog 48 #[.pointer (some ⟨b, 0, none⟩), .agg #[.int .i64 k, .slice A n c, .slice A' n' c'], .bool wi] w (BPost B b d o (fs ++ [⟨k, [t0], 0, signT k⟩]) w) := by
  obtain ⟨i0, hi0, hz0, hz1, hz2⟩ := info_parts openInfo
  obtain ⟨ov, cells, hw, hown, hfs⟩ := h
  have hlb := hw.lt
  obtain ⟨d, rfl⟩ : ∃ d', d = d' + 1 := by cases d with | zero => exact ht.elim | succ d => exact ⟨d, rfl⟩
  obtain ⟨A1, n1, c1, A2, n2, c2, e0, e1, e2, hn1, hcp, hrg, hkd⟩ := ht.parts
  injection e2 with e2 e2' e2''
  subst e2 e2' e2''
  have hn0 : 0 < n' := by have := hkd.1; simp at this; omega
  obtain ⟨bb, oo, rfl, hX, hcs⟩ := hkd.2 hn0
  have HF := Lib.hid (show FrAt w (· < B) (d + 1) ⟨k, [t0], 0, signT k⟩ [.int .i64 k, .slice (some ⟨bb, oo, none⟩) 1 c', .int .i64 0, .string ⟨(signT k).toArray⟩] from
    ⟨_, 1, c', rfl, by decide, by omega, ⟨rfl, fun _ => ⟨bb, oo, rfl, hX, fun i t' hi => by
      match i, hi with
      | 0, hi =>
        simp at hi
        subst hi
        obtain ⟨v0, v1, v2, q0, q1, q2, ht'⟩ := hcs 0 t0 rfl
        exact ⟨v0, v1, v2, q0, q1, q2, ht'.deeper (Nat.le_succ _)⟩⟩⟩, Nat.zero_le _⟩)
  have hk1 : (k == 1) = false := by rcases hk with rfl | rfl | rfl <;> rfl
  have hk2 : (k == 2) = false := by rcases hk with rfl | rfl | rfl <;> rfl
  have hk3 : (k == 3) = false := by rcases hk with rfl | rfl | rfl <;> rfl
  have hn1' : (0 : Int) < (n' : Int) := by omega
  have hc1' : (1 : Int) ≤ (c' : Int) := by omega
  clear ht e1 e0 hkd hrg hcs
  obtain ⟨p, v, hp, hBb, hbk, hv⟩ := hw.split
  obtain ⟨q0, q1, q2, f0, f1, f2⟩ := blk3 hbk
  have hlw := hbk.lt
  have hne0 := wr_apart hbk hown
  clear hw
  rcases hk with rfl | rfl | rfl
  · have hlN : b ≠ w.heap.size := by omega
    have hne1 : some w.heap.size ≠ ov.ownBlock := fun e => by have := (hown.lt _ e.symm).2; omega
    have mixed : Try.prog.follows .mixedOrders = true := by kernel_rfl
    go_enter Try.func48, Try.ntmps48
    go_wp2
    have BN := Blk.new w 30 #[.int .i64 4, .slice A n c, .slice (some ⟨bb, oo, none⟩) n' c']
    have BB := hbk.alloc (.cells #[.int .i64 4, .slice A n c, .slice (some ⟨bb, oo, none⟩) n' c'] 30)
    refine wp_region_held_drew (S := (fun W => W.cell? ⟨w.heap.size, 0, none⟩ = some (.int .i64 4) ∧ W.cell? ⟨w.heap.size, 2, none⟩ = some (.slice (some ⟨bb, oo, none⟩) n' c'))) mixed ⟨BN.cell 0, BN.cell 2⟩ (fun hS => ?_)
    refine wpAnyH_take (i := 0) (v := .pointer (some ⟨b, 0, none⟩)) rfl (by kernel_rfl) (by kernel_rfl) (by kernel_rfl) (fun _ _ _ h => h) (Or.inl ⟨by rfl, fun W hW => by have h0 := hW.1; have h2 := hW.2; go_simp⟩) hS ?_
    refine wpAnyH_take (i := 1) (v := .pointer (some ⟨b, 0, none⟩)) rfl (by kernel_rfl) (by kernel_rfl) (by kernel_rfl) (fun _ _ _ h => h) (Or.inl ⟨by rfl, fun W hW => by have h0 := hW.1; have h2 := hW.2; go_simp⟩) hS ?_
    refine wpAnyH_take (i := 2) (v := .pointer (some ⟨b, 0, none⟩)) rfl (by kernel_rfl) (by kernel_rfl) (by kernel_rfl) (fun _ _ _ h => h) (Or.inl ⟨by rfl, fun W hW => by have h0 := hW.1; have h2 := hW.2; go_simp⟩) hS ?_
    refine wpAnyH_take (i := 3) (v := .pointer (some ⟨b, 2, none⟩)) rfl (by kernel_rfl) (by kernel_rfl) (by kernel_rfl) (fun _ _ _ h => h) (Or.inl ⟨by rfl, fun W hW => by have h0 := hW.1; have h2 := hW.2; go_simp⟩) hS ?_
    refine wpAnyH_take (i := 5) (v := .pointer (some ⟨w.heap.size, 0, none⟩)) rfl (by kernel_rfl) (by kernel_rfl) (by kernel_rfl) (fun _ _ _ h => h) (Or.inl ⟨by rfl, fun W hW => by have h0 := hW.1; have h2 := hW.2; go_simp⟩) hS ?_
    refine wpAnyH_take (i := 7) (v := .pointer (some ⟨w.heap.size, 2, none⟩)) rfl (by kernel_rfl) (by kernel_rfl) (by kernel_rfl) (fun _ _ _ h => h) (Or.inl ⟨by rfl, fun W hW => by have h0 := hW.1; have h2 := hW.2; go_simp⟩) hS ?_
    refine wpAnyH_take (i := 10) (v := .pointer (some ⟨w.heap.size, 0, none⟩)) rfl (by kernel_rfl) (by kernel_rfl) (by kernel_rfl) (fun _ _ _ h => h) (Or.inl ⟨by rfl, fun W hW => by have h0 := hW.1; have h2 := hW.2; go_simp⟩) hS ?_
    refine wpAnyH_take (i := 6) (v := .int .i64 4) rfl (by kernel_rfl) (by kernel_rfl) (by kernel_rfl) (fun _ _ _ h => h) (Or.inl ⟨by rfl, fun W hW => by have h0 := hW.1; have h2 := hW.2; go_simp⟩) hS ?_
    refine wpAnyH_take (i := 8) (v := .slice (some ⟨bb, oo, none⟩) n' c') rfl (by kernel_rfl) (by kernel_rfl) (by kernel_rfl) (fun _ _ _ h => h) (Or.inl ⟨by rfl, fun W hW => by have h0 := hW.1; have h2 := hW.2; go_simp⟩) hS ?_
    refine wpAnyH_take (i := 11) (v := .int .i64 4) rfl (by kernel_rfl) (by kernel_rfl) (by kernel_rfl) (fun _ _ _ h => h) (Or.inl ⟨by rfl, fun W hW => by have h0 := hW.1; have h2 := hW.2; go_simp⟩) hS ?_
    refine wpAnyH_take (i := 9) (v := .slice (some ⟨bb, oo, none⟩) 1 c') rfl (by kernel_rfl) (by kernel_rfl) (by kernel_rfl) (fun _ _ _ h => h) (Or.inl ⟨by rfl, fun W hW => by have h0 := hW.1; have h2 := hW.2; go_simp⟩) hS ?_
    refine wpAnyH_ready (rs := [4, 12]) (by kernel_rfl) (by simp) ?_
    refine AllReadyH.cons rfl (fun K hK => ?_) (AllReadyH.cons rfl (fun K hK => ?_) AllReadyH.nil)
    · go_simp
      refine hK.out _ _ hS (fun hS => ?_)
      clear hK K
      refine wpAnyH_ready (rs := [12]) (by kernel_rfl) (by simp) ?_
      refine AllReadyH.cons rfl (fun K hK => ?_) AllReadyH.nil
      go_simp
      go_wp2_with fail
      refine (signText_any 4 _ (by decide)).mono ?_
      rintro e w3 ⟨rfl, rfl⟩
      refine hK.out _ _ hS (fun hS => ?_)
      clear hK K
      refine wpAnyH_take (i := 13) (v := .agg #[.int .i64 4, .slice (some ⟨bb, oo, none⟩) 1 c', .int .i64 0, .string ⟨(signT 4).toArray⟩]) rfl (by kernel_rfl) (by kernel_rfl) (by kernel_rfl) (fun _ _ _ h => h) (Or.inl ⟨by rfl, fun W hW => by have h0 := hW.1; have h2 := hW.2; go_simp⟩) hS ?_
      refine wpAnyH_ready (rs := [14]) (by kernel_rfl) (by simp) ?_
      refine AllReadyH.cons rfl (fun K hK => ?_) AllReadyH.nil
      go_simp
      refine hK.out _ _ ⟨(BN.alloc _).cell 0, (BN.alloc _).cell 2⟩ (fun hS => ?_)
      clear hK K
      refine wpAnyH_ready (rs := [15]) (by kernel_rfl) (by simp) ?_
      refine AllReadyH.cons rfl (fun K hK => ?_) AllReadyH.nil
      refine step_append_lies _ (by rfl) (.tmp 53) (.tmp 63) 107 (by rfl) B 159 i0 _ 4 56 Try.underlying107 hi0 hz0 hz1 hz2 rfl (by decide) _ fs.length cells (by rfl) (by exact (hown.alloc _).alloc _) ⟨w.heap.size + 1, 0, none⟩ 1 1 [.int .i64 4, .slice (some ⟨bb, oo, none⟩) 1 c', .int .i64 0, .string ⟨(signT 4).toArray⟩] (by rfl) rfl (by exact World.news_of_block (by exact heap_alloc_new2 w _ _)) (four_one _ _ _ _ _ _) (by decide) (by unfold maxLen; omega) (by omega) (by simp; omega) _ (by rfl) ?_
      intro g2 cap2 w2 hown2 hgrow hat hlt2
      have hq2 : Blk w2 b 109 #[p, v, ov] := Blk.grown (by exact BB.alloc _) hgrow hne0
      have hq3 : Blk w2 w.heap.size 30 #[.int .i64 4, .slice A n c, .slice (some ⟨bb, oo, none⟩) n' c'] := Blk.grown (by exact BN.alloc _) hgrow hne1
      obtain ⟨_, _, k2, _, _, j2⟩ := blk3 hq2
      refine hK.out _ _ ⟨hq3.cell 0, hq3.cell 2⟩ (fun hS => ?_)
      clear hK K
      refine wpAnyH_take (i := 16) (v := .pointer (some ⟨b, 0, none⟩)) rfl (by kernel_rfl) (by kernel_rfl) (by kernel_rfl) (fun _ _ _ h => h) (Or.inl ⟨by rfl, fun W hW => by have h0 := hW.1; have h2 := hW.2; go_simp⟩) hS ?_
      refine wpAnyH_take (i := 17) (v := .pointer (some ⟨b, 2, none⟩)) rfl (by kernel_rfl) (by kernel_rfl) (by kernel_rfl) (fun _ _ _ h => h) (Or.inl ⟨by rfl, fun W hW => by have h0 := hW.1; have h2 := hW.2; go_simp⟩) hS ?_
      refine wpAnyH_ready (rs := [18]) (by kernel_rfl) (by simp) ?_
      refine AllReadyH.cons rfl (fun K hK => ?_) AllReadyH.nil
      go_simp
      refine hK.out _ _ ⟨(hq3.far (by show w.heap.size ≠ b; omega) _).cell 0, (hq3.far (by show w.heap.size ≠ b; omega) _).cell 2⟩ (fun hS => ?_)
      refine wpAnyH_done (by kernel_rfl) ?_ _
      clear k2 j2
      go_wp2
      go_end0
      refine ⟨rfl, ?_⟩
      exact open_step hp hB hBb hbk hv hown hfs (w1 := (w.alloc (.cells #[.int .i64 4, .slice A n c, .slice (some ⟨bb, oo, none⟩) n' c'] 30)).alloc (.cells #[.int .i64 4, .slice (some ⟨bb, oo, none⟩) 1 c', .int .i64 0, .string ⟨(signT 4).toArray⟩] 159)) (((Below.refl _ w).alloc (Nat.le_refl _) _).alloc (by simp) _) ⟨hgrow.os, hgrow.tape, hgrow.output, hgrow.size, hgrow.block⟩ hown2 HF.out
    · go_simp
      go_wp2_with fail
      refine (signText_any 4 _ (by decide)).mono ?_
      rintro e w3 ⟨rfl, rfl⟩
      refine hK.out _ _ hS (fun hS => ?_)
      clear hK K
      refine wpAnyH_take (i := 13) (v := .agg #[.int .i64 4, .slice (some ⟨bb, oo, none⟩) 1 c', .int .i64 0, .string ⟨(signT 4).toArray⟩]) rfl (by kernel_rfl) (by kernel_rfl) (by kernel_rfl) (fun _ _ _ h => h) (Or.inl ⟨by rfl, fun W hW => by have h0 := hW.1; have h2 := hW.2; go_simp⟩) hS ?_
      refine wpAnyH_ready (rs := [4, 14]) (by kernel_rfl) (by simp) ?_
      refine AllReadyH.cons rfl (fun K hK => ?_) (AllReadyH.cons rfl (fun K hK => ?_) AllReadyH.nil)
      · go_simp
        refine hK.out _ _ hS (fun hS => ?_)
        clear hK K
        refine wpAnyH_ready (rs := [14]) (by kernel_rfl) (by simp) ?_
        refine AllReadyH.cons rfl (fun K hK => ?_) AllReadyH.nil
        go_simp
        refine hK.out _ _ ⟨(BN.alloc _).cell 0, (BN.alloc _).cell 2⟩ (fun hS => ?_)
        clear hK K
        refine wpAnyH_ready (rs := [15]) (by kernel_rfl) (by simp) ?_
        refine AllReadyH.cons rfl (fun K hK => ?_) AllReadyH.nil
        refine step_append_lies _ (by rfl) (.tmp 53) (.tmp 63) 107 (by rfl) B 159 i0 _ 4 56 Try.underlying107 hi0 hz0 hz1 hz2 rfl (by decide) _ fs.length cells (by rfl) (by exact (hown.alloc _).alloc _) ⟨w.heap.size + 1, 0, none⟩ 1 1 [.int .i64 4, .slice (some ⟨bb, oo, none⟩) 1 c', .int .i64 0, .string ⟨(signT 4).toArray⟩] (by rfl) rfl (by exact World.news_of_block (by exact heap_alloc_new2 w _ _)) (four_one _ _ _ _ _ _) (by decide) (by unfold maxLen; omega) (by omega) (by simp; omega) _ (by rfl) ?_
        intro g2 cap2 w2 hown2 hgrow hat hlt2
        have hq2 : Blk w2 b 109 #[p, v, ov] := Blk.grown (by exact BB.alloc _) hgrow hne0
        have hq3 : Blk w2 w.heap.size 30 #[.int .i64 4, .slice A n c, .slice (some ⟨bb, oo, none⟩) n' c'] := Blk.grown (by exact BN.alloc _) hgrow hne1
        obtain ⟨_, _, k2, _, _, j2⟩ := blk3 hq2
        refine hK.out _ _ ⟨hq3.cell 0, hq3.cell 2⟩ (fun hS => ?_)
        clear hK K
        refine wpAnyH_take (i := 16) (v := .pointer (some ⟨b, 0, none⟩)) rfl (by kernel_rfl) (by kernel_rfl) (by kernel_rfl) (fun _ _ _ h => h) (Or.inl ⟨by rfl, fun W hW => by have h0 := hW.1; have h2 := hW.2; go_simp⟩) hS ?_
        refine wpAnyH_take (i := 17) (v := .pointer (some ⟨b, 2, none⟩)) rfl (by kernel_rfl) (by kernel_rfl) (by kernel_rfl) (fun _ _ _ h => h) (Or.inl ⟨by rfl, fun W hW => by have h0 := hW.1; have h2 := hW.2; go_simp⟩) hS ?_
        refine wpAnyH_ready (rs := [18]) (by kernel_rfl) (by simp) ?_
        refine AllReadyH.cons rfl (fun K hK => ?_) AllReadyH.nil
        go_simp
        refine hK.out _ _ ⟨(hq3.far (by show w.heap.size ≠ b; omega) _).cell 0, (hq3.far (by show w.heap.size ≠ b; omega) _).cell 2⟩ (fun hS => ?_)
        refine wpAnyH_done (by kernel_rfl) ?_ _
        clear k2 j2
        go_wp2
        go_end0
        refine ⟨rfl, ?_⟩
        exact open_step hp hB hBb hbk hv hown hfs (w1 := (w.alloc (.cells #[.int .i64 4, .slice A n c, .slice (some ⟨bb, oo, none⟩) n' c'] 30)).alloc (.cells #[.int .i64 4, .slice (some ⟨bb, oo, none⟩) 1 c', .int .i64 0, .string ⟨(signT 4).toArray⟩] 159)) (((Below.refl _ w).alloc (Nat.le_refl _) _).alloc (by simp) _) ⟨hgrow.os, hgrow.tape, hgrow.output, hgrow.size, hgrow.block⟩ hown2 HF.out
      · go_simp
        refine hK.out _ _ ⟨(BN.alloc _).cell 0, (BN.alloc _).cell 2⟩ (fun hS => ?_)
        clear hK K
        refine wpAnyH_ready (rs := [4]) (by kernel_rfl) (by simp) ?_
        refine AllReadyH.cons rfl (fun K hK => ?_) AllReadyH.nil
        go_simp
        refine hK.out _ _ hS (fun hS => ?_)
        clear hK K
        refine wpAnyH_ready (rs := [15]) (by kernel_rfl) (by simp) ?_
        refine AllReadyH.cons rfl (fun K hK => ?_) AllReadyH.nil
        refine step_append_lies _ (by rfl) (.tmp 53) (.tmp 63) 107 (by rfl) B 159 i0 _ 4 56 Try.underlying107 hi0 hz0 hz1 hz2 rfl (by decide) _ fs.length cells (by rfl) (by exact (hown.alloc _).alloc _) ⟨w.heap.size + 1, 0, none⟩ 1 1 [.int .i64 4, .slice (some ⟨bb, oo, none⟩) 1 c', .int .i64 0, .string ⟨(signT 4).toArray⟩] (by rfl) rfl (by exact World.news_of_block (by exact heap_alloc_new2 w _ _)) (four_one _ _ _ _ _ _) (by decide) (by unfold maxLen; omega) (by omega) (by simp; omega) _ (by rfl) ?_
        intro g2 cap2 w2 hown2 hgrow hat hlt2
        have hq2 : Blk w2 b 109 #[p, v, ov] := Blk.grown (by exact BB.alloc _) hgrow hne0
        have hq3 : Blk w2 w.heap.size 30 #[.int .i64 4, .slice A n c, .slice (some ⟨bb, oo, none⟩) n' c'] := Blk.grown (by exact BN.alloc _) hgrow hne1
        obtain ⟨_, _, k2, _, _, j2⟩ := blk3 hq2
        refine hK.out _ _ ⟨hq3.cell 0, hq3.cell 2⟩ (fun hS => ?_)
        clear hK K
        refine wpAnyH_take (i := 16) (v := .pointer (some ⟨b, 0, none⟩)) rfl (by kernel_rfl) (by kernel_rfl) (by kernel_rfl) (fun _ _ _ h => h) (Or.inl ⟨by rfl, fun W hW => by have h0 := hW.1; have h2 := hW.2; go_simp⟩) hS ?_
        refine wpAnyH_take (i := 17) (v := .pointer (some ⟨b, 2, none⟩)) rfl (by kernel_rfl) (by kernel_rfl) (by kernel_rfl) (fun _ _ _ h => h) (Or.inl ⟨by rfl, fun W hW => by have h0 := hW.1; have h2 := hW.2; go_simp⟩) hS ?_
        refine wpAnyH_ready (rs := [18]) (by kernel_rfl) (by simp) ?_
        refine AllReadyH.cons rfl (fun K hK => ?_) AllReadyH.nil
        go_simp
        refine hK.out _ _ ⟨(hq3.far (by show w.heap.size ≠ b; omega) _).cell 0, (hq3.far (by show w.heap.size ≠ b; omega) _).cell 2⟩ (fun hS => ?_)
        refine wpAnyH_done (by kernel_rfl) ?_ _
        clear k2 j2
        go_wp2
        go_end0
        refine ⟨rfl, ?_⟩
        exact open_step hp hB hBb hbk hv hown hfs (w1 := (w.alloc (.cells #[.int .i64 4, .slice A n c, .slice (some ⟨bb, oo, none⟩) n' c'] 30)).alloc (.cells #[.int .i64 4, .slice (some ⟨bb, oo, none⟩) 1 c', .int .i64 0, .string ⟨(signT 4).toArray⟩] 159)) (((Below.refl _ w).alloc (Nat.le_refl _) _).alloc (by simp) _) ⟨hgrow.os, hgrow.tape, hgrow.output, hgrow.size, hgrow.block⟩ hown2 HF.out
  · have hlN : b ≠ w.heap.size := by omega
    have hne1 : some w.heap.size ≠ ov.ownBlock := fun e => by have := (hown.lt _ e.symm).2; omega
    have mixed : Try.prog.follows .mixedOrders = true := by kernel_rfl
    go_enter Try.func48, Try.ntmps48
    go_wp2
    have BN := Blk.new w 30 #[.int .i64 5, .slice A n c, .slice (some ⟨bb, oo, none⟩) n' c']
    have BB := hbk.alloc (.cells #[.int .i64 5, .slice A n c, .slice (some ⟨bb, oo, none⟩) n' c'] 30)
    refine wp_region_held_drew (S := (fun W => W.cell? ⟨w.heap.size, 0, none⟩ = some (.int .i64 5) ∧ W.cell? ⟨w.heap.size, 2, none⟩ = some (.slice (some ⟨bb, oo, none⟩) n' c'))) mixed ⟨BN.cell 0, BN.cell 2⟩ (fun hS => ?_)
    refine wpAnyH_take (i := 0) (v := .pointer (some ⟨b, 0, none⟩)) rfl (by kernel_rfl) (by kernel_rfl) (by kernel_rfl) (fun _ _ _ h => h) (Or.inl ⟨by rfl, fun W hW => by have h0 := hW.1; have h2 := hW.2; go_simp⟩) hS ?_
    refine wpAnyH_take (i := 1) (v := .pointer (some ⟨b, 0, none⟩)) rfl (by kernel_rfl) (by kernel_rfl) (by kernel_rfl) (fun _ _ _ h => h) (Or.inl ⟨by rfl, fun W hW => by have h0 := hW.1; have h2 := hW.2; go_simp⟩) hS ?_
    refine wpAnyH_take (i := 2) (v := .pointer (some ⟨b, 0, none⟩)) rfl (by kernel_rfl) (by kernel_rfl) (by kernel_rfl) (fun _ _ _ h => h) (Or.inl ⟨by rfl, fun W hW => by have h0 := hW.1; have h2 := hW.2; go_simp⟩) hS ?_
    refine wpAnyH_take (i := 3) (v := .pointer (some ⟨b, 2, none⟩)) rfl (by kernel_rfl) (by kernel_rfl) (by kernel_rfl) (fun _ _ _ h => h) (Or.inl ⟨by rfl, fun W hW => by have h0 := hW.1; have h2 := hW.2; go_simp⟩) hS ?_
    refine wpAnyH_take (i := 5) (v := .pointer (some ⟨w.heap.size, 0, none⟩)) rfl (by kernel_rfl) (by kernel_rfl) (by kernel_rfl) (fun _ _ _ h => h) (Or.inl ⟨by rfl, fun W hW => by have h0 := hW.1; have h2 := hW.2; go_simp⟩) hS ?_
    refine wpAnyH_take (i := 7) (v := .pointer (some ⟨w.heap.size, 2, none⟩)) rfl (by kernel_rfl) (by kernel_rfl) (by kernel_rfl) (fun _ _ _ h => h) (Or.inl ⟨by rfl, fun W hW => by have h0 := hW.1; have h2 := hW.2; go_simp⟩) hS ?_
    refine wpAnyH_take (i := 10) (v := .pointer (some ⟨w.heap.size, 0, none⟩)) rfl (by kernel_rfl) (by kernel_rfl) (by kernel_rfl) (fun _ _ _ h => h) (Or.inl ⟨by rfl, fun W hW => by have h0 := hW.1; have h2 := hW.2; go_simp⟩) hS ?_
    refine wpAnyH_take (i := 6) (v := .int .i64 5) rfl (by kernel_rfl) (by kernel_rfl) (by kernel_rfl) (fun _ _ _ h => h) (Or.inl ⟨by rfl, fun W hW => by have h0 := hW.1; have h2 := hW.2; go_simp⟩) hS ?_
    refine wpAnyH_take (i := 8) (v := .slice (some ⟨bb, oo, none⟩) n' c') rfl (by kernel_rfl) (by kernel_rfl) (by kernel_rfl) (fun _ _ _ h => h) (Or.inl ⟨by rfl, fun W hW => by have h0 := hW.1; have h2 := hW.2; go_simp⟩) hS ?_
    refine wpAnyH_take (i := 11) (v := .int .i64 5) rfl (by kernel_rfl) (by kernel_rfl) (by kernel_rfl) (fun _ _ _ h => h) (Or.inl ⟨by rfl, fun W hW => by have h0 := hW.1; have h2 := hW.2; go_simp⟩) hS ?_
    refine wpAnyH_take (i := 9) (v := .slice (some ⟨bb, oo, none⟩) 1 c') rfl (by kernel_rfl) (by kernel_rfl) (by kernel_rfl) (fun _ _ _ h => h) (Or.inl ⟨by rfl, fun W hW => by have h0 := hW.1; have h2 := hW.2; go_simp⟩) hS ?_
    refine wpAnyH_ready (rs := [4, 12]) (by kernel_rfl) (by simp) ?_
    refine AllReadyH.cons rfl (fun K hK => ?_) (AllReadyH.cons rfl (fun K hK => ?_) AllReadyH.nil)
    · go_simp
      refine hK.out _ _ hS (fun hS => ?_)
      clear hK K
      refine wpAnyH_ready (rs := [12]) (by kernel_rfl) (by simp) ?_
      refine AllReadyH.cons rfl (fun K hK => ?_) AllReadyH.nil
      go_simp
      go_wp2_with fail
      refine (signText_any 5 _ (by decide)).mono ?_
      rintro e w3 ⟨rfl, rfl⟩
      refine hK.out _ _ hS (fun hS => ?_)
      clear hK K
      refine wpAnyH_take (i := 13) (v := .agg #[.int .i64 5, .slice (some ⟨bb, oo, none⟩) 1 c', .int .i64 0, .string ⟨(signT 5).toArray⟩]) rfl (by kernel_rfl) (by kernel_rfl) (by kernel_rfl) (fun _ _ _ h => h) (Or.inl ⟨by rfl, fun W hW => by have h0 := hW.1; have h2 := hW.2; go_simp⟩) hS ?_
      refine wpAnyH_ready (rs := [14]) (by kernel_rfl) (by simp) ?_
      refine AllReadyH.cons rfl (fun K hK => ?_) AllReadyH.nil
      go_simp
      refine hK.out _ _ ⟨(BN.alloc _).cell 0, (BN.alloc _).cell 2⟩ (fun hS => ?_)
      clear hK K
      refine wpAnyH_ready (rs := [15]) (by kernel_rfl) (by simp) ?_
      refine AllReadyH.cons rfl (fun K hK => ?_) AllReadyH.nil
      refine step_append_lies _ (by rfl) (.tmp 53) (.tmp 63) 107 (by rfl) B 159 i0 _ 4 56 Try.underlying107 hi0 hz0 hz1 hz2 rfl (by decide) _ fs.length cells (by rfl) (by exact (hown.alloc _).alloc _) ⟨w.heap.size + 1, 0, none⟩ 1 1 [.int .i64 5, .slice (some ⟨bb, oo, none⟩) 1 c', .int .i64 0, .string ⟨(signT 5).toArray⟩] (by rfl) rfl (by exact World.news_of_block (by exact heap_alloc_new2 w _ _)) (four_one _ _ _ _ _ _) (by decide) (by unfold maxLen; omega) (by omega) (by simp; omega) _ (by rfl) ?_
      intro g2 cap2 w2 hown2 hgrow hat hlt2
      have hq2 : Blk w2 b 109 #[p, v, ov] := Blk.grown (by exact BB.alloc _) hgrow hne0
      have hq3 : Blk w2 w.heap.size 30 #[.int .i64 5, .slice A n c, .slice (some ⟨bb, oo, none⟩) n' c'] := Blk.grown (by exact BN.alloc _) hgrow hne1
      obtain ⟨_, _, k2, _, _, j2⟩ := blk3 hq2
      refine hK.out _ _ ⟨hq3.cell 0, hq3.cell 2⟩ (fun hS => ?_)
      clear hK K
      refine wpAnyH_take (i := 16) (v := .pointer (some ⟨b, 0, none⟩)) rfl (by kernel_rfl) (by kernel_rfl) (by kernel_rfl) (fun _ _ _ h => h) (Or.inl ⟨by rfl, fun W hW => by have h0 := hW.1; have h2 := hW.2; go_simp⟩) hS ?_
      refine wpAnyH_take (i := 17) (v := .pointer (some ⟨b, 2, none⟩)) rfl (by kernel_rfl) (by kernel_rfl) (by kernel_rfl) (fun _ _ _ h => h) (Or.inl ⟨by rfl, fun W hW => by have h0 := hW.1; have h2 := hW.2; go_simp⟩) hS ?_
      refine wpAnyH_ready (rs := [18]) (by kernel_rfl) (by simp) ?_
      refine AllReadyH.cons rfl (fun K hK => ?_) AllReadyH.nil
      go_simp
      refine hK.out _ _ ⟨(hq3.far (by show w.heap.size ≠ b; omega) _).cell 0, (hq3.far (by show w.heap.size ≠ b; omega) _).cell 2⟩ (fun hS => ?_)
      refine wpAnyH_done (by kernel_rfl) ?_ _
      clear k2 j2
      go_wp2
      go_end0
      refine ⟨rfl, ?_⟩
      exact open_step hp hB hBb hbk hv hown hfs (w1 := (w.alloc (.cells #[.int .i64 5, .slice A n c, .slice (some ⟨bb, oo, none⟩) n' c'] 30)).alloc (.cells #[.int .i64 5, .slice (some ⟨bb, oo, none⟩) 1 c', .int .i64 0, .string ⟨(signT 5).toArray⟩] 159)) (((Below.refl _ w).alloc (Nat.le_refl _) _).alloc (by simp) _) ⟨hgrow.os, hgrow.tape, hgrow.output, hgrow.size, hgrow.block⟩ hown2 HF.out
    · go_simp
      go_wp2_with fail
      refine (signText_any 5 _ (by decide)).mono ?_
      rintro e w3 ⟨rfl, rfl⟩
      refine hK.out _ _ hS (fun hS => ?_)
      clear hK K
      refine wpAnyH_take (i := 13) (v := .agg #[.int .i64 5, .slice (some ⟨bb, oo, none⟩) 1 c', .int .i64 0, .string ⟨(signT 5).toArray⟩]) rfl (by kernel_rfl) (by kernel_rfl) (by kernel_rfl) (fun _ _ _ h => h) (Or.inl ⟨by rfl, fun W hW => by have h0 := hW.1; have h2 := hW.2; go_simp⟩) hS ?_
      refine wpAnyH_ready (rs := [4, 14]) (by kernel_rfl) (by simp) ?_
      refine AllReadyH.cons rfl (fun K hK => ?_) (AllReadyH.cons rfl (fun K hK => ?_) AllReadyH.nil)
      · go_simp
        refine hK.out _ _ hS (fun hS => ?_)
        clear hK K
        refine wpAnyH_ready (rs := [14]) (by kernel_rfl) (by simp) ?_
        refine AllReadyH.cons rfl (fun K hK => ?_) AllReadyH.nil
        go_simp
        refine hK.out _ _ ⟨(BN.alloc _).cell 0, (BN.alloc _).cell 2⟩ (fun hS => ?_)
        clear hK K
        refine wpAnyH_ready (rs := [15]) (by kernel_rfl) (by simp) ?_
        refine AllReadyH.cons rfl (fun K hK => ?_) AllReadyH.nil
        refine step_append_lies _ (by rfl) (.tmp 53) (.tmp 63) 107 (by rfl) B 159 i0 _ 4 56 Try.underlying107 hi0 hz0 hz1 hz2 rfl (by decide) _ fs.length cells (by rfl) (by exact (hown.alloc _).alloc _) ⟨w.heap.size + 1, 0, none⟩ 1 1 [.int .i64 5, .slice (some ⟨bb, oo, none⟩) 1 c', .int .i64 0, .string ⟨(signT 5).toArray⟩] (by rfl) rfl (by exact World.news_of_block (by exact heap_alloc_new2 w _ _)) (four_one _ _ _ _ _ _) (by decide) (by unfold maxLen; omega) (by omega) (by simp; omega) _ (by rfl) ?_
        intro g2 cap2 w2 hown2 hgrow hat hlt2
        have hq2 : Blk w2 b 109 #[p, v, ov] := Blk.grown (by exact BB.alloc _) hgrow hne0
        have hq3 : Blk w2 w.heap.size 30 #[.int .i64 5, .slice A n c, .slice (some ⟨bb, oo, none⟩) n' c'] := Blk.grown (by exact BN.alloc _) hgrow hne1
        obtain ⟨_, _, k2, _, _, j2⟩ := blk3 hq2
        refine hK.out _ _ ⟨hq3.cell 0, hq3.cell 2⟩ (fun hS => ?_)
        clear hK K
        refine wpAnyH_take (i := 16) (v := .pointer (some ⟨b, 0, none⟩)) rfl (by kernel_rfl) (by kernel_rfl) (by kernel_rfl) (fun _ _ _ h => h) (Or.inl ⟨by rfl, fun W hW => by have h0 := hW.1; have h2 := hW.2; go_simp⟩) hS ?_
        refine wpAnyH_take (i := 17) (v := .pointer (some ⟨b, 2, none⟩)) rfl (by kernel_rfl) (by kernel_rfl) (by kernel_rfl) (fun _ _ _ h => h) (Or.inl ⟨by rfl, fun W hW => by have h0 := hW.1; have h2 := hW.2; go_simp⟩) hS ?_
        refine wpAnyH_ready (rs := [18]) (by kernel_rfl) (by simp) ?_
        refine AllReadyH.cons rfl (fun K hK => ?_) AllReadyH.nil
        go_simp
        refine hK.out _ _ ⟨(hq3.far (by show w.heap.size ≠ b; omega) _).cell 0, (hq3.far (by show w.heap.size ≠ b; omega) _).cell 2⟩ (fun hS => ?_)
        refine wpAnyH_done (by kernel_rfl) ?_ _
        clear k2 j2
        go_wp2
        go_end0
        refine ⟨rfl, ?_⟩
        exact open_step hp hB hBb hbk hv hown hfs (w1 := (w.alloc (.cells #[.int .i64 5, .slice A n c, .slice (some ⟨bb, oo, none⟩) n' c'] 30)).alloc (.cells #[.int .i64 5, .slice (some ⟨bb, oo, none⟩) 1 c', .int .i64 0, .string ⟨(signT 5).toArray⟩] 159)) (((Below.refl _ w).alloc (Nat.le_refl _) _).alloc (by simp) _) ⟨hgrow.os, hgrow.tape, hgrow.output, hgrow.size, hgrow.block⟩ hown2 HF.out
      · go_simp
        refine hK.out _ _ ⟨(BN.alloc _).cell 0, (BN.alloc _).cell 2⟩ (fun hS => ?_)
        clear hK K
        refine wpAnyH_ready (rs := [4]) (by kernel_rfl) (by simp) ?_
        refine AllReadyH.cons rfl (fun K hK => ?_) AllReadyH.nil
        go_simp
        refine hK.out _ _ hS (fun hS => ?_)
        clear hK K
        refine wpAnyH_ready (rs := [15]) (by kernel_rfl) (by simp) ?_
        refine AllReadyH.cons rfl (fun K hK => ?_) AllReadyH.nil
        refine step_append_lies _ (by rfl) (.tmp 53) (.tmp 63) 107 (by rfl) B 159 i0 _ 4 56 Try.underlying107 hi0 hz0 hz1 hz2 rfl (by decide) _ fs.length cells (by rfl) (by exact (hown.alloc _).alloc _) ⟨w.heap.size + 1, 0, none⟩ 1 1 [.int .i64 5, .slice (some ⟨bb, oo, none⟩) 1 c', .int .i64 0, .string ⟨(signT 5).toArray⟩] (by rfl) rfl (by exact World.news_of_block (by exact heap_alloc_new2 w _ _)) (four_one _ _ _ _ _ _) (by decide) (by unfold maxLen; omega) (by omega) (by simp; omega) _ (by rfl) ?_
        intro g2 cap2 w2 hown2 hgrow hat hlt2
        have hq2 : Blk w2 b 109 #[p, v, ov] := Blk.grown (by exact BB.alloc _) hgrow hne0
        have hq3 : Blk w2 w.heap.size 30 #[.int .i64 5, .slice A n c, .slice (some ⟨bb, oo, none⟩) n' c'] := Blk.grown (by exact BN.alloc _) hgrow hne1
        obtain ⟨_, _, k2, _, _, j2⟩ := blk3 hq2
        refine hK.out _ _ ⟨hq3.cell 0, hq3.cell 2⟩ (fun hS => ?_)
        clear hK K
        refine wpAnyH_take (i := 16) (v := .pointer (some ⟨b, 0, none⟩)) rfl (by kernel_rfl) (by kernel_rfl) (by kernel_rfl) (fun _ _ _ h => h) (Or.inl ⟨by rfl, fun W hW => by have h0 := hW.1; have h2 := hW.2; go_simp⟩) hS ?_
        refine wpAnyH_take (i := 17) (v := .pointer (some ⟨b, 2, none⟩)) rfl (by kernel_rfl) (by kernel_rfl) (by kernel_rfl) (fun _ _ _ h => h) (Or.inl ⟨by rfl, fun W hW => by have h0 := hW.1; have h2 := hW.2; go_simp⟩) hS ?_
        refine wpAnyH_ready (rs := [18]) (by kernel_rfl) (by simp) ?_
        refine AllReadyH.cons rfl (fun K hK => ?_) AllReadyH.nil
        go_simp
        refine hK.out _ _ ⟨(hq3.far (by show w.heap.size ≠ b; omega) _).cell 0, (hq3.far (by show w.heap.size ≠ b; omega) _).cell 2⟩ (fun hS => ?_)
        refine wpAnyH_done (by kernel_rfl) ?_ _
        clear k2 j2
        go_wp2
        go_end0
        refine ⟨rfl, ?_⟩
        exact open_step hp hB hBb hbk hv hown hfs (w1 := (w.alloc (.cells #[.int .i64 5, .slice A n c, .slice (some ⟨bb, oo, none⟩) n' c'] 30)).alloc (.cells #[.int .i64 5, .slice (some ⟨bb, oo, none⟩) 1 c', .int .i64 0, .string ⟨(signT 5).toArray⟩] 159)) (((Below.refl _ w).alloc (Nat.le_refl _) _).alloc (by simp) _) ⟨hgrow.os, hgrow.tape, hgrow.output, hgrow.size, hgrow.block⟩ hown2 HF.out
  · have hlN : b ≠ w.heap.size := by omega
    have hne1 : some w.heap.size ≠ ov.ownBlock := fun e => by have := (hown.lt _ e.symm).2; omega
    have mixed : Try.prog.follows .mixedOrders = true := by kernel_rfl
    go_enter Try.func48, Try.ntmps48
    go_wp2
    have BN := Blk.new w 30 #[.int .i64 6, .slice A n c, .slice (some ⟨bb, oo, none⟩) n' c']
    have BB := hbk.alloc (.cells #[.int .i64 6, .slice A n c, .slice (some ⟨bb, oo, none⟩) n' c'] 30)
    refine wp_region_held_drew (S := (fun W => W.cell? ⟨w.heap.size, 0, none⟩ = some (.int .i64 6) ∧ W.cell? ⟨w.heap.size, 2, none⟩ = some (.slice (some ⟨bb, oo, none⟩) n' c'))) mixed ⟨BN.cell 0, BN.cell 2⟩ (fun hS => ?_)
    refine wpAnyH_take (i := 0) (v := .pointer (some ⟨b, 0, none⟩)) rfl (by kernel_rfl) (by kernel_rfl) (by kernel_rfl) (fun _ _ _ h => h) (Or.inl ⟨by rfl, fun W hW => by have h0 := hW.1; have h2 := hW.2; go_simp⟩) hS ?_
    refine wpAnyH_take (i := 1) (v := .pointer (some ⟨b, 0, none⟩)) rfl (by kernel_rfl) (by kernel_rfl) (by kernel_rfl) (fun _ _ _ h => h) (Or.inl ⟨by rfl, fun W hW => by have h0 := hW.1; have h2 := hW.2; go_simp⟩) hS ?_
    refine wpAnyH_take (i := 2) (v := .pointer (some ⟨b, 0, none⟩)) rfl (by kernel_rfl) (by kernel_rfl) (by kernel_rfl) (fun _ _ _ h => h) (Or.inl ⟨by rfl, fun W hW => by have h0 := hW.1; have h2 := hW.2; go_simp⟩) hS ?_
    refine wpAnyH_take (i := 3) (v := .pointer (some ⟨b, 2, none⟩)) rfl (by kernel_rfl) (by kernel_rfl) (by kernel_rfl) (fun _ _ _ h => h) (Or.inl ⟨by rfl, fun W hW => by have h0 := hW.1; have h2 := hW.2; go_simp⟩) hS ?_
    refine wpAnyH_take (i := 5) (v := .pointer (some ⟨w.heap.size, 0, none⟩)) rfl (by kernel_rfl) (by kernel_rfl) (by kernel_rfl) (fun _ _ _ h => h) (Or.inl ⟨by rfl, fun W hW => by have h0 := hW.1; have h2 := hW.2; go_simp⟩) hS ?_
    refine wpAnyH_take (i := 7) (v := .pointer (some ⟨w.heap.size, 2, none⟩)) rfl (by kernel_rfl) (by kernel_rfl) (by kernel_rfl) (fun _ _ _ h => h) (Or.inl ⟨by rfl, fun W hW => by have h0 := hW.1; have h2 := hW.2; go_simp⟩) hS ?_
    refine wpAnyH_take (i := 10) (v := .pointer (some ⟨w.heap.size, 0, none⟩)) rfl (by kernel_rfl) (by kernel_rfl) (by kernel_rfl) (fun _ _ _ h => h) (Or.inl ⟨by rfl, fun W hW => by have h0 := hW.1; have h2 := hW.2; go_simp⟩) hS ?_
    refine wpAnyH_take (i := 6) (v := .int .i64 6) rfl (by kernel_rfl) (by kernel_rfl) (by kernel_rfl) (fun _ _ _ h => h) (Or.inl ⟨by rfl, fun W hW => by have h0 := hW.1; have h2 := hW.2; go_simp⟩) hS ?_
    refine wpAnyH_take (i := 8) (v := .slice (some ⟨bb, oo, none⟩) n' c') rfl (by kernel_rfl) (by kernel_rfl) (by kernel_rfl) (fun _ _ _ h => h) (Or.inl ⟨by rfl, fun W hW => by have h0 := hW.1; have h2 := hW.2; go_simp⟩) hS ?_
    refine wpAnyH_take (i := 11) (v := .int .i64 6) rfl (by kernel_rfl) (by kernel_rfl) (by kernel_rfl) (fun _ _ _ h => h) (Or.inl ⟨by rfl, fun W hW => by have h0 := hW.1; have h2 := hW.2; go_simp⟩) hS ?_
    refine wpAnyH_take (i := 9) (v := .slice (some ⟨bb, oo, none⟩) 1 c') rfl (by kernel_rfl) (by kernel_rfl) (by kernel_rfl) (fun _ _ _ h => h) (Or.inl ⟨by rfl, fun W hW => by have h0 := hW.1; have h2 := hW.2; go_simp⟩) hS ?_
    refine wpAnyH_ready (rs := [4, 12]) (by kernel_rfl) (by simp) ?_
    refine AllReadyH.cons rfl (fun K hK => ?_) (AllReadyH.cons rfl (fun K hK => ?_) AllReadyH.nil)
    · go_simp
      refine hK.out _ _ hS (fun hS => ?_)
      clear hK K
      refine wpAnyH_ready (rs := [12]) (by kernel_rfl) (by simp) ?_
      refine AllReadyH.cons rfl (fun K hK => ?_) AllReadyH.nil
      go_simp
      go_wp2_with fail
      refine (signText_any 6 _ (by decide)).mono ?_
      rintro e w3 ⟨rfl, rfl⟩
      refine hK.out _ _ hS (fun hS => ?_)
      clear hK K
      refine wpAnyH_take (i := 13) (v := .agg #[.int .i64 6, .slice (some ⟨bb, oo, none⟩) 1 c', .int .i64 0, .string ⟨(signT 6).toArray⟩]) rfl (by kernel_rfl) (by kernel_rfl) (by kernel_rfl) (fun _ _ _ h => h) (Or.inl ⟨by rfl, fun W hW => by have h0 := hW.1; have h2 := hW.2; go_simp⟩) hS ?_
      refine wpAnyH_ready (rs := [14]) (by kernel_rfl) (by simp) ?_
      refine AllReadyH.cons rfl (fun K hK => ?_) AllReadyH.nil
      go_simp
      refine hK.out _ _ ⟨(BN.alloc _).cell 0, (BN.alloc _).cell 2⟩ (fun hS => ?_)
      clear hK K
      refine wpAnyH_ready (rs := [15]) (by kernel_rfl) (by simp) ?_
      refine AllReadyH.cons rfl (fun K hK => ?_) AllReadyH.nil
      refine step_append_lies _ (by rfl) (.tmp 53) (.tmp 63) 107 (by rfl) B 159 i0 _ 4 56 Try.underlying107 hi0 hz0 hz1 hz2 rfl (by decide) _ fs.length cells (by rfl) (by exact (hown.alloc _).alloc _) ⟨w.heap.size + 1, 0, none⟩ 1 1 [.int .i64 6, .slice (some ⟨bb, oo, none⟩) 1 c', .int .i64 0, .string ⟨(signT 6).toArray⟩] (by rfl) rfl (by exact World.news_of_block (by exact heap_alloc_new2 w _ _)) (four_one _ _ _ _ _ _) (by decide) (by unfold maxLen; omega) (by omega) (by simp; omega) _ (by rfl) ?_
      intro g2 cap2 w2 hown2 hgrow hat hlt2
      have hq2 : Blk w2 b 109 #[p, v, ov] := Blk.grown (by exact BB.alloc _) hgrow hne0
      have hq3 : Blk w2 w.heap.size 30 #[.int .i64 6, .slice A n c, .slice (some ⟨bb, oo, none⟩) n' c'] := Blk.grown (by exact BN.alloc _) hgrow hne1
      obtain ⟨_, _, k2, _, _, j2⟩ := blk3 hq2
      refine hK.out _ _ ⟨hq3.cell 0, hq3.cell 2⟩ (fun hS => ?_)
      clear hK K
      refine wpAnyH_take (i := 16) (v := .pointer (some ⟨b, 0, none⟩)) rfl (by kernel_rfl) (by kernel_rfl) (by kernel_rfl) (fun _ _ _ h => h) (Or.inl ⟨by rfl, fun W hW => by have h0 := hW.1; have h2 := hW.2; go_simp⟩) hS ?_
      refine wpAnyH_take (i := 17) (v := .pointer (some ⟨b, 2, none⟩)) rfl (by kernel_rfl) (by kernel_rfl) (by kernel_rfl) (fun _ _ _ h => h) (Or.inl ⟨by rfl, fun W hW => by have h0 := hW.1; have h2 := hW.2; go_simp⟩) hS ?_
      refine wpAnyH_ready (rs := [18]) (by kernel_rfl) (by simp) ?_
      refine AllReadyH.cons rfl (fun K hK => ?_) AllReadyH.nil
      go_simp
      refine hK.out _ _ ⟨(hq3.far (by show w.heap.size ≠ b; omega) _).cell 0, (hq3.far (by show w.heap.size ≠ b; omega) _).cell 2⟩ (fun hS => ?_)
      refine wpAnyH_done (by kernel_rfl) ?_ _
      clear k2 j2
      go_wp2
      go_end0
      refine ⟨rfl, ?_⟩
      exact open_step hp hB hBb hbk hv hown hfs (w1 := (w.alloc (.cells #[.int .i64 6, .slice A n c, .slice (some ⟨bb, oo, none⟩) n' c'] 30)).alloc (.cells #[.int .i64 6, .slice (some ⟨bb, oo, none⟩) 1 c', .int .i64 0, .string ⟨(signT 6).toArray⟩] 159)) (((Below.refl _ w).alloc (Nat.le_refl _) _).alloc (by simp) _) ⟨hgrow.os, hgrow.tape, hgrow.output, hgrow.size, hgrow.block⟩ hown2 HF.out
    · go_simp
      go_wp2_with fail
      refine (signText_any 6 _ (by decide)).mono ?_
      rintro e w3 ⟨rfl, rfl⟩
      refine hK.out _ _ hS (fun hS => ?_)
      clear hK K
      refine wpAnyH_take (i := 13) (v := .agg #[.int .i64 6, .slice (some ⟨bb, oo, none⟩) 1 c', .int .i64 0, .string ⟨(signT 6).toArray⟩]) rfl (by kernel_rfl) (by kernel_rfl) (by kernel_rfl) (fun _ _ _ h => h) (Or.inl ⟨by rfl, fun W hW => by have h0 := hW.1; have h2 := hW.2; go_simp⟩) hS ?_
      refine wpAnyH_ready (rs := [4, 14]) (by kernel_rfl) (by simp) ?_
      refine AllReadyH.cons rfl (fun K hK => ?_) (AllReadyH.cons rfl (fun K hK => ?_) AllReadyH.nil)
      · go_simp
        refine hK.out _ _ hS (fun hS => ?_)
        clear hK K
        refine wpAnyH_ready (rs := [14]) (by kernel_rfl) (by simp) ?_
        refine AllReadyH.cons rfl (fun K hK => ?_) AllReadyH.nil
        go_simp
        refine hK.out _ _ ⟨(BN.alloc _).cell 0, (BN.alloc _).cell 2⟩ (fun hS => ?_)
        clear hK K
        refine wpAnyH_ready (rs := [15]) (by kernel_rfl) (by simp) ?_
        refine AllReadyH.cons rfl (fun K hK => ?_) AllReadyH.nil
        refine step_append_lies _ (by rfl) (.tmp 53) (.tmp 63) 107 (by rfl) B 159 i0 _ 4 56 Try.underlying107 hi0 hz0 hz1 hz2 rfl (by decide) _ fs.length cells (by rfl) (by exact (hown.alloc _).alloc _) ⟨w.heap.size + 1, 0, none⟩ 1 1 [.int .i64 6, .slice (some ⟨bb, oo, none⟩) 1 c', .int .i64 0, .string ⟨(signT 6).toArray⟩] (by rfl) rfl (by exact World.news_of_block (by exact heap_alloc_new2 w _ _)) (four_one _ _ _ _ _ _) (by decide) (by unfold maxLen; omega) (by omega) (by simp; omega) _ (by rfl) ?_
        intro g2 cap2 w2 hown2 hgrow hat hlt2
        have hq2 : Blk w2 b 109 #[p, v, ov] := Blk.grown (by exact BB.alloc _) hgrow hne0
        have hq3 : Blk w2 w.heap.size 30 #[.int .i64 6, .slice A n c, .slice (some ⟨bb, oo, none⟩) n' c'] := Blk.grown (by exact BN.alloc _) hgrow hne1
        obtain ⟨_, _, k2, _, _, j2⟩ := blk3 hq2
        refine hK.out _ _ ⟨hq3.cell 0, hq3.cell 2⟩ (fun hS => ?_)
        clear hK K
        refine wpAnyH_take (i := 16) (v := .pointer (some ⟨b, 0, none⟩)) rfl (by kernel_rfl) (by kernel_rfl) (by kernel_rfl) (fun _ _ _ h => h) (Or.inl ⟨by rfl, fun W hW => by have h0 := hW.1; have h2 := hW.2; go_simp⟩) hS ?_
        refine wpAnyH_take (i := 17) (v := .pointer (some ⟨b, 2, none⟩)) rfl (by kernel_rfl) (by kernel_rfl) (by kernel_rfl) (fun _ _ _ h => h) (Or.inl ⟨by rfl, fun W hW => by have h0 := hW.1; have h2 := hW.2; go_simp⟩) hS ?_
        refine wpAnyH_ready (rs := [18]) (by kernel_rfl) (by simp) ?_
        refine AllReadyH.cons rfl (fun K hK => ?_) AllReadyH.nil
        go_simp
        refine hK.out _ _ ⟨(hq3.far (by show w.heap.size ≠ b; omega) _).cell 0, (hq3.far (by show w.heap.size ≠ b; omega) _).cell 2⟩ (fun hS => ?_)
        refine wpAnyH_done (by kernel_rfl) ?_ _
        clear k2 j2
        go_wp2
        go_end0
        refine ⟨rfl, ?_⟩
        exact open_step hp hB hBb hbk hv hown hfs (w1 := (w.alloc (.cells #[.int .i64 6, .slice A n c, .slice (some ⟨bb, oo, none⟩) n' c'] 30)).alloc (.cells #[.int .i64 6, .slice (some ⟨bb, oo, none⟩) 1 c', .int .i64 0, .string ⟨(signT 6).toArray⟩] 159)) (((Below.refl _ w).alloc (Nat.le_refl _) _).alloc (by simp) _) ⟨hgrow.os, hgrow.tape, hgrow.output, hgrow.size, hgrow.block⟩ hown2 HF.out
      · go_simp
        refine hK.out _ _ ⟨(BN.alloc _).cell 0, (BN.alloc _).cell 2⟩ (fun hS => ?_)
        clear hK K
        refine wpAnyH_ready (rs := [4]) (by kernel_rfl) (by simp) ?_
        refine AllReadyH.cons rfl (fun K hK => ?_) AllReadyH.nil
        go_simp
        refine hK.out _ _ hS (fun hS => ?_)
        clear hK K
        refine wpAnyH_ready (rs := [15]) (by kernel_rfl) (by simp) ?_
        refine AllReadyH.cons rfl (fun K hK => ?_) AllReadyH.nil
        refine step_append_lies _ (by rfl) (.tmp 53) (.tmp 63) 107 (by rfl) B 159 i0 _ 4 56 Try.underlying107 hi0 hz0 hz1 hz2 rfl (by decide) _ fs.length cells (by rfl) (by exact (hown.alloc _).alloc _) ⟨w.heap.size + 1, 0, none⟩ 1 1 [.int .i64 6, .slice (some ⟨bb, oo, none⟩) 1 c', .int .i64 0, .string ⟨(signT 6).toArray⟩] (by rfl) rfl (by exact World.news_of_block (by exact heap_alloc_new2 w _ _)) (four_one _ _ _ _ _ _) (by decide) (by unfold maxLen; omega) (by omega) (by simp; omega) _ (by rfl) ?_
        intro g2 cap2 w2 hown2 hgrow hat hlt2
        have hq2 : Blk w2 b 109 #[p, v, ov] := Blk.grown (by exact BB.alloc _) hgrow hne0
        have hq3 : Blk w2 w.heap.size 30 #[.int .i64 6, .slice A n c, .slice (some ⟨bb, oo, none⟩) n' c'] := Blk.grown (by exact BN.alloc _) hgrow hne1
        obtain ⟨_, _, k2, _, _, j2⟩ := blk3 hq2
        refine hK.out _ _ ⟨hq3.cell 0, hq3.cell 2⟩ (fun hS => ?_)
        clear hK K
        refine wpAnyH_take (i := 16) (v := .pointer (some ⟨b, 0, none⟩)) rfl (by kernel_rfl) (by kernel_rfl) (by kernel_rfl) (fun _ _ _ h => h) (Or.inl ⟨by rfl, fun W hW => by have h0 := hW.1; have h2 := hW.2; go_simp⟩) hS ?_
        refine wpAnyH_take (i := 17) (v := .pointer (some ⟨b, 2, none⟩)) rfl (by kernel_rfl) (by kernel_rfl) (by kernel_rfl) (fun _ _ _ h => h) (Or.inl ⟨by rfl, fun W hW => by have h0 := hW.1; have h2 := hW.2; go_simp⟩) hS ?_
        refine wpAnyH_ready (rs := [18]) (by kernel_rfl) (by simp) ?_
        refine AllReadyH.cons rfl (fun K hK => ?_) AllReadyH.nil
        go_simp
        refine hK.out _ _ ⟨(hq3.far (by show w.heap.size ≠ b; omega) _).cell 0, (hq3.far (by show w.heap.size ≠ b; omega) _).cell 2⟩ (fun hS => ?_)
        refine wpAnyH_done (by kernel_rfl) ?_ _
        clear k2 j2
        go_wp2
        go_end0
        refine ⟨rfl, ?_⟩
        exact open_step hp hB hBb hbk hv hown hfs (w1 := (w.alloc (.cells #[.int .i64 6, .slice A n c, .slice (some ⟨bb, oo, none⟩) n' c'] 30)).alloc (.cells #[.int .i64 6, .slice (some ⟨bb, oo, none⟩) 1 c', .int .i64 0, .string ⟨(signT 6).toArray⟩] 159)) (((Below.refl _ w).alloc (Nat.le_refl _) _).alloc (by simp) _) ⟨hgrow.os, hgrow.tape, hgrow.output, hgrow.size, hgrow.block⟩ hown2 HF.out
end Go.Proofs.Ytponepcgokfiiaa
namespace Go.Proofs.Ytponepcgokfiiaa
open Go.RowKit

theorem wr_up {B b d : Nat} {o : List UInt8} {fs : List Fr} {w w' : World} (h : WrAt B b d o fs w) (hB : B ≤ w.heap.size) (hb : Below w.heap.size w w') : WrAt B b d o fs w' := by
  obtain ⟨ov, cells, hw, hown, hfs⟩ := h
  exact ⟨ov, cells, isw_below hw hb, own_below hown hb, hfs.keep fun j hj => hb.block j (by omega)⟩
set_option maxHeartbeats 1000000 in
set_option maxRecDepth 100000 in
theorem begin_other (B b d : Nat) (o : List UInt8) (fs : List Fr) (w : World) (h : WrAt B b d o fs w) (hB : B ≤ w.heap.size) (k : Int) (wi : Bool) (A : Option Addr) (n c : Nat) (A' : Option Addr) (n' c' : Nat)
    (hk1 : (k == 1) = false) (hk2 : (k == 2) = false) (hk3 : (k == 3) = false) (hk4 : (k == 4) = false) (hk5 : (k == 5) = false) (hk6 : (k == 6) = false) :
    Calls Try.prog 48 #[.pointer (some ⟨b, 0, none⟩), .agg #[.int .i64 k, .slice A n c, .slice A' n' c'], .bool wi] w (BPost B b d o fs w) := by
  go_enter Try.func48, Try.ntmps48
  go_wp2
  go_end0
  exact ⟨rfl, wr_up h hB ((Below.refl _ w).alloc (Nat.le_refl _) _), ((Below.refl _ w).alloc (Nat.le_refl _) _).mono hB⟩
set_option maxHeartbeats 1000000 in
set_option maxRecDepth 100000 in
theorem begin_bare (B b d : Nat) (o : List UInt8) (fs : List Fr) (w : World) (h : WrAt B b d o fs w) (hB : B ≤ w.heap.size) (k : Int) (hk : k = 4 ∨ k = 5 ∨ k = 6) (wi : Bool) (A : Option Addr) (n c : Nat) (A' : Option Addr) (c' : Nat) :
    Calls Try.prog 48 #[.pointer (some ⟨b, 0, none⟩), .agg #[.int .i64 k, .slice A n c, .slice A' 0 c'], .bool wi] w (BPost B b d o fs w) := by
  rcases hk with rfl | rfl | rfl
  · go_enter Try.func48, Try.ntmps48
    go_wp2
    go_end0
    exact ⟨rfl, wr_up h hB ((Below.refl _ w).alloc (Nat.le_refl _) _), ((Below.refl _ w).alloc (Nat.le_refl _) _).mono hB⟩
  · go_enter Try.func48, Try.ntmps48
    go_wp2
    go_end0
    exact ⟨rfl, wr_up h hB ((Below.refl _ w).alloc (Nat.le_refl _) _), ((Below.refl _ w).alloc (Nat.le_refl _) _).mono hB⟩
  · go_enter Try.func48, Try.ntmps48
    go_wp2
    go_end0
    exact ⟨rfl, wr_up h hB ((Below.refl _ w).alloc (Nat.le_refl _) _), ((Below.refl _ w).alloc (Nat.le_refl _) _).mono hB⟩
theorem begin_any (B b d : Nat) (o : List UInt8) (fs : List Fr) (w : World) (h : WrAt B b d o fs w) (hB : B ≤ w.heap.size) (wi : Bool) (t : Tr) (k : Int) (A : Option Addr) (n c : Nat) (A' : Option Addr) (n' c' : Nat)
    (ht : TreeAt w (· < B) d t [.int .i64 k, .slice A n c, .slice A' n' c']) (ho : o.length ≤ 35184372088832) (hfl : fs.length ≤ 1000000) :
    Calls Try.prog 48 #[.pointer (some ⟨b, 0, none⟩), .agg #[.int .i64 k, .slice A n c, .slice A' n' c'], .bool wi] w (BPost B b d (o ++ nowT wi t) (fs ++ openT wi t) w) := by
  obtain ⟨k0, rs, kids⟩ := t
  have hh := ht.heads
  obtain ⟨rfl, hn', _, _⟩ := hh
  unfold nowT openT
  dsimp only
  by_cases h1 : k = 1
  · subst h1
    rw [if_pos rfl, if_pos rfl, List.append_nil]
    exact begin_set B b d o fs w h hB wi rs kids A n c A' n' c' ht ho
  · rw [if_neg h1, if_neg h1]
    by_cases h2 : k = 2
    · subst h2
      have h23 : (2 : Int) = 2 ∨ (2 : Int) = 3 := .inl rfl
      rw [if_pos h23, if_pos h23]
      cases wi with
      | false => simp only [Bool.false_eq_true, if_false, List.append_nil]; exact begin_2_n B b d o fs w h hB rs kids A n c A' n' c' ht hfl
      | true => simp only [if_true]; exact begin_2_w B b d o fs w h hB rs kids A n c A' n' c' ht hfl ho
    · by_cases h3 : k = 3
      · subst h3
        have h23 : (3 : Int) = 2 ∨ (3 : Int) = 3 := .inr rfl
        rw [if_pos h23, if_pos h23]
        cases wi with
        | false => simp only [Bool.false_eq_true, if_false, List.append_nil]; exact begin_3_n B b d o fs w h hB rs kids A n c A' n' c' ht hfl
        | true => simp only [if_true]; exact begin_3_w B b d o fs w h hB rs kids A n c A' n' c' ht hfl ho
      · have h23 : ¬ (k = 2 ∨ k = 3) := by omega
        rw [if_neg h23, if_neg h23, List.append_nil]
        by_cases h4 : k = 4 ∨ k = 5 ∨ k = 6
        · rw [if_pos h4]
          cases kids with
          | nil =>
            simp only [List.append_nil]
            obtain rfl : n' = 0 := hn'
            exact begin_bare B b d o fs w h hB k h4 wi A n c A' c'
          | cons t0 ts => exact begin_sign B b d o fs w h hB k h4 wi rs t0 ts A n c A' n' c' ht hfl
        · rw [if_neg h4, List.append_nil]
          exact begin_other B b d o fs w h hB k wi A n c A' n' c' (by simpa using h1) (by simpa using h2) (by simpa using h3) (by simp; omega) (by simp; omega) (by simp; omega)
end Go.Proofs.Ytponepcgokfiiaa
