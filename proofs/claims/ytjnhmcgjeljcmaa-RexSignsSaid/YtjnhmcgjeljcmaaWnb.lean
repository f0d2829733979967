/- rex.writer.begin: a Cat or an Alt in ( ). -/
import Derived.Test.YtjnhmcgjeljcmaaWn
namespace Go.Proofs.Ytjnhmcgjeljcmaa
open Go.RowKit

set_option maxHeartbeats 1000000 in
set_option maxRecDepth 100000 in
theorem begin_2_w (B b d : Nat) (o : List UInt8) (fs : List Fr) (w : World) (h : WrAt B b d o fs w) (hB : B ≤ w.heap.size) (rs : List (UInt8 × UInt8)) (kids : List Tr) (A : Option Addr) (n c : Nat) (A' : Option Addr) (n' c' : Nat)
    (ht : TreeAt w (· < B) d (.mk 2 rs kids) [.int .i64 2, .slice A n c, .slice A' n' c']) (hfl : fs.length ≤ 1000000) (ho : o.length ≤ 35184372088832) :
    Calls Try.prog 36 #[.pointer (some ⟨b, 0, none⟩), .agg #[.int .i64 2, .slice A n c, .slice A' n' c'], .bool true] w (BPost B b d (o ++ [40]) (fs ++ [⟨2, kids, 0, [41]⟩]) w) := by
  obtain ⟨i0, hi0, hz0, hz1, hz2⟩ := info_parts openInfo
  obtain ⟨ov, cells, hw, hown, hfs⟩ := h
  have hlb := hw.lt
  obtain ⟨d, rfl⟩ : ∃ d', d = d' + 1 := by cases d with | zero => exact ht.elim | succ d => exact ⟨d, rfl⟩
  obtain ⟨A1, n1, c1, A2, n2, c2, e0, e1, e2, hn1, hcp, hrg, hkd⟩ := ht.parts
  injection e2 with e2 e2' e2''
  subst e2 e2' e2''
  have HF := Lib.hid (show FrAt w (· < B) (d + 1) ⟨2, kids, 0, [41]⟩ [.int .i64 2, .slice A' n' c', .int .i64 0, .string ⟨#[41]⟩] from ⟨A', n', c', rfl, hcp.1, hcp.2, hkd.deeper (Nat.le_succ _), Nat.zero_le _⟩)
  clear ht e1 e0 hkd hrg
  go_enter Try.func36, Try.ntmps36
  go_wp2_with fail
  have hb0 : Below w.heap.size w (w.alloc (.cells #[.int .i64 2, .slice A n c, .slice A' n' c'] 26)) := (Below.refl _ w).alloc (Nat.le_refl _) _
  refine (wByte B b _ ov 40 _ (isw_below hw hb0) (by simp [Lib.byteCells_length]; omega) (by simp; omega)).mono ?_
  rintro e u ⟨rfl, hwu, bu, hku⟩
  have hlu := hwu.lt
  have hownu := keepsO_own (own_below hown hb0) hku
  have hbN : Blk u w.heap.size 26 #[.int .i64 2, .slice A n c, .slice A' n' c'] := hku _ _ _ (by decide) (by decide) (Blk.new w 26 _)
  obtain ⟨r0, r1, r2, _, _, _⟩ := blk3 hbN
  have hlN := hbN.lt
  obtain ⟨p, v, hp, hBb, hbk, hv⟩ := hwu.split
  obtain ⟨q0, q1, q2, f0, f1, f2⟩ := blk3 hbk
  have hne0 := wr_apart hbk hownu
  have HU := Lib.hid (And.intro hwu (And.intro bu hv))
  clear hwu hku
  go_wp2
  go_region_law (refine step_append_lies _ (by rfl) (.tmp 30) (.tmp 37) 95 (by rfl) B 131 i0 _ 4 56 Try.underlying95 hi0 hz0 hz1 hz2 rfl (by decide) _ fs.length cells (by rfl) (by exact hownu.alloc _) ⟨u.heap.size, 0, none⟩ 1 1 [.int .i64 2, .slice A' n' c', .int .i64 0, .string ⟨#[41]⟩] (by rfl) rfl (by exact World.news_of_block (by exact heap_alloc_new u _)) (four_one _ _ _ _ _ _) (by decide) (by unfold maxLen; omega) (by omega) (by simp; omega) _ (by rfl) ?_; intro g2 cap2 w2 hown2 hgrow hat hlt2; have hq2 : Blk w2 b 97 #[p, v, ov] := Blk.grown (by exact hbk.alloc _) hgrow hne0; have k2 : w2.cell? ⟨b, 2, none⟩ = some ov := hq2.cell 2; have j2 : w2.frozen? ⟨b, 2, none⟩ = false := hq2.frozen 2)
  all_goals
    go_wp2
    go_end0
    refine ⟨rfl, ?_⟩
    have hlow : ∀ j, j < B → u.heap[j]? = w.heap[j]? := fun j hj => (HU.out.2.1.block j hj).trans (hb0.block j (by omega))
    have hfu : FrAt u (· < B) (d + 1) ⟨2, kids, 0, [41]⟩ [.int .i64 2, .slice A' n' c', .int .i64 0, .string ⟨#[41]⟩] := by
      obtain ⟨Q, m, z, hv', hm, hc, hK, hx⟩ := HF.out
      exact ⟨Q, m, z, hv', hm, hc, hK.keep hlow, hx⟩
    have hvu : u.ownsRow B 5 1 v (Lib.byteCells (o ++ [40])).length (Lib.byteCells (o ++ [40])) := by rw [bytes_app]; exact HU.out.2.2
    have := open_step hp (by omega) hBb hbk hvu hownu (hfs.keep hlow) (w1 := u.alloc (.cells #[.int .i64 2, .slice A' n' c', .int .i64 0, .string ⟨#[41]⟩] 131)) ((Below.refl _ u).alloc (Nat.le_refl _) _) ⟨hgrow.os, hgrow.tape, hgrow.output, hgrow.size, hgrow.block⟩ hown2 hfu
    exact ⟨this.1, ((hb0.mono hB).trans HU.out.2.1).trans this.2⟩

set_option maxHeartbeats 1000000 in
set_option maxRecDepth 100000 in
theorem begin_3_w (B b d : Nat) (o : List UInt8) (fs : List Fr) (w : World) (h : WrAt B b d o fs w) (hB : B ≤ w.heap.size) (rs : List (UInt8 × UInt8)) (kids : List Tr) (A : Option Addr) (n c : Nat) (A' : Option Addr) (n' c' : Nat)
    (ht : TreeAt w (· < B) d (.mk 3 rs kids) [.int .i64 3, .slice A n c, .slice A' n' c']) (hfl : fs.length ≤ 1000000) (ho : o.length ≤ 35184372088832) :
    Calls Try.prog 36 #[.pointer (some ⟨b, 0, none⟩), .agg #[.int .i64 3, .slice A n c, .slice A' n' c'], .bool true] w (BPost B b d (o ++ [40]) (fs ++ [⟨3, kids, 0, [41]⟩]) w) := by
  obtain ⟨i0, hi0, hz0, hz1, hz2⟩ := info_parts openInfo
  obtain ⟨ov, cells, hw, hown, hfs⟩ := h
  have hlb := hw.lt
  obtain ⟨d, rfl⟩ : ∃ d', d = d' + 1 := by cases d with | zero => exact ht.elim | succ d => exact ⟨d, rfl⟩
  obtain ⟨A1, n1, c1, A2, n2, c2, e0, e1, e2, hn1, hcp, hrg, hkd⟩ := ht.parts
  injection e2 with e2 e2' e2''
  subst e2 e2' e2''
  have HF := Lib.hid (show FrAt w (· < B) (d + 1) ⟨3, kids, 0, [41]⟩ [.int .i64 3, .slice A' n' c', .int .i64 0, .string ⟨#[41]⟩] from ⟨A', n', c', rfl, hcp.1, hcp.2, hkd.deeper (Nat.le_succ _), Nat.zero_le _⟩)
  clear ht e1 e0 hkd hrg
  go_enter Try.func36, Try.ntmps36
  go_wp2_with fail
  have hb0 : Below w.heap.size w (w.alloc (.cells #[.int .i64 3, .slice A n c, .slice A' n' c'] 26)) := (Below.refl _ w).alloc (Nat.le_refl _) _
  refine (wByte B b _ ov 40 _ (isw_below hw hb0) (by simp [Lib.byteCells_length]; omega) (by simp; omega)).mono ?_
  rintro e u ⟨rfl, hwu, bu, hku⟩
  have hlu := hwu.lt
  have hownu := keepsO_own (own_below hown hb0) hku
  have hbN : Blk u w.heap.size 26 #[.int .i64 3, .slice A n c, .slice A' n' c'] := hku _ _ _ (by decide) (by decide) (Blk.new w 26 _)
  obtain ⟨r0, r1, r2, _, _, _⟩ := blk3 hbN
  have hlN := hbN.lt
  obtain ⟨p, v, hp, hBb, hbk, hv⟩ := hwu.split
  obtain ⟨q0, q1, q2, f0, f1, f2⟩ := blk3 hbk
  have hne0 := wr_apart hbk hownu
  have HU := Lib.hid (And.intro hwu (And.intro bu hv))
  clear hwu hku
  go_wp2
  go_region_law (refine step_append_lies _ (by rfl) (.tmp 30) (.tmp 37) 95 (by rfl) B 131 i0 _ 4 56 Try.underlying95 hi0 hz0 hz1 hz2 rfl (by decide) _ fs.length cells (by rfl) (by exact hownu.alloc _) ⟨u.heap.size, 0, none⟩ 1 1 [.int .i64 3, .slice A' n' c', .int .i64 0, .string ⟨#[41]⟩] (by rfl) rfl (by exact World.news_of_block (by exact heap_alloc_new u _)) (four_one _ _ _ _ _ _) (by decide) (by unfold maxLen; omega) (by omega) (by simp; omega) _ (by rfl) ?_; intro g2 cap2 w2 hown2 hgrow hat hlt2; have hq2 : Blk w2 b 97 #[p, v, ov] := Blk.grown (by exact hbk.alloc _) hgrow hne0; have k2 : w2.cell? ⟨b, 2, none⟩ = some ov := hq2.cell 2; have j2 : w2.frozen? ⟨b, 2, none⟩ = false := hq2.frozen 2)
  all_goals
    go_wp2
    go_end0
    refine ⟨rfl, ?_⟩
    have hlow : ∀ j, j < B → u.heap[j]? = w.heap[j]? := fun j hj => (HU.out.2.1.block j hj).trans (hb0.block j (by omega))
    have hfu : FrAt u (· < B) (d + 1) ⟨3, kids, 0, [41]⟩ [.int .i64 3, .slice A' n' c', .int .i64 0, .string ⟨#[41]⟩] := by
      obtain ⟨Q, m, z, hv', hm, hc, hK, hx⟩ := HF.out
      exact ⟨Q, m, z, hv', hm, hc, hK.keep hlow, hx⟩
    have hvu : u.ownsRow B 5 1 v (Lib.byteCells (o ++ [40])).length (Lib.byteCells (o ++ [40])) := by rw [bytes_app]; exact HU.out.2.2
    have := open_step hp (by omega) hBb hbk hvu hownu (hfs.keep hlow) (w1 := u.alloc (.cells #[.int .i64 3, .slice A' n' c', .int .i64 0, .string ⟨#[41]⟩] 131)) ((Below.refl _ u).alloc (Nat.le_refl _) _) ⟨hgrow.os, hgrow.tape, hgrow.output, hgrow.size, hgrow.block⟩ hown2 hfu
    exact ⟨this.1, ((hb0.mono hB).trans HU.out.2.1).trans this.2⟩
end Go.Proofs.Ytjnhmcgjeljcmaa
