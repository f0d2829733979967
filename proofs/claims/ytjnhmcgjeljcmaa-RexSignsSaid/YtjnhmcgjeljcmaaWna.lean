/- rex.writer.begin: a Cat or an Alt, without ( ). -/
import Derived.Test.YtjnhmcgjeljcmaaWn
namespace Go.Proofs.Ytjnhmcgjeljcmaa
open Go.RowKit

set_option maxHeartbeats 1000000 in
set_option maxRecDepth 100000 in
theorem begin_2_n (B b d : Nat) (o : List UInt8) (fs : List Fr) (w : World) (h : WrAt B b d o fs w) (hB : B ≤ w.heap.size) (rs : List (UInt8 × UInt8)) (kids : List Tr) (A : Option Addr) (n c : Nat) (A' : Option Addr) (n' c' : Nat)
    (ht : TreeAt w (· < B) d (.mk 2 rs kids) [.int .i64 2, .slice A n c, .slice A' n' c']) (hfl : fs.length ≤ 1000000) :
    Calls Try.prog 36 #[.pointer (some ⟨b, 0, none⟩), .agg #[.int .i64 2, .slice A n c, .slice A' n' c'], .bool false] w (BPost B b d o (fs ++ [⟨2, kids, 0, []⟩]) w) := by
  obtain ⟨i0, hi0, hz0, hz1, hz2⟩ := info_parts openInfo
  obtain ⟨ov, cells, hw, hown, hfs⟩ := h
  have hlb := hw.lt
  obtain ⟨d, rfl⟩ : ∃ d', d = d' + 1 := by cases d with | zero => exact ht.elim | succ d => exact ⟨d, rfl⟩
  obtain ⟨A1, n1, c1, A2, n2, c2, e0, e1, e2, hn1, hcp, hrg, hkd⟩ := ht.parts
  injection e2 with e2 e2' e2''
  subst e2 e2' e2''
  have HF := Lib.hid (show FrAt w (· < B) (d + 1) ⟨2, kids, 0, []⟩ [.int .i64 2, .slice A' n' c', .int .i64 0, .string ⟨#[]⟩] from ⟨A', n', c', rfl, hcp.1, hcp.2, hkd.deeper (Nat.le_succ _), Nat.zero_le _⟩)
  clear ht e1 e0 hkd hrg
  obtain ⟨p, v, hp, hBb, hbk, hv⟩ := hw.split
  obtain ⟨q0, q1, q2, f0, f1, f2⟩ := blk3 hbk
  have hlw := hbk.lt
  have hne0 := wr_apart hbk hown
  have hne1 : some w.heap.size ≠ ov.ownBlock := fun e => by have := (hown.lt _ e.symm).2; omega
  clear hw
  go_enter Try.func36, Try.ntmps36
  go_wp2
  go_region_law (refine step_append_lies _ (by rfl) (.tmp 30) (.tmp 37) 95 (by rfl) B 131 i0 _ 4 56 Try.underlying95 hi0 hz0 hz1 hz2 rfl (by decide) _ fs.length cells (by rfl) (by exact (hown.alloc _).alloc _) ⟨w.heap.size + 1, 0, none⟩ 1 1 [.int .i64 2, .slice A' n' c', .int .i64 0, .string ⟨#[]⟩] (by rfl) rfl (by exact World.news_of_block (by exact heap_alloc_new2 w _ _)) (four_one _ _ _ _ _ _) (by decide) (by unfold maxLen; omega) (by omega) (by simp; omega) _ (by rfl) ?_; intro g2 cap2 w2 hown2 hgrow hat hlt2; have hq2 : Blk w2 b 97 #[p, v, ov] := Blk.grown (by exact (hbk.alloc _).alloc _) hgrow hne0; have k2 : w2.cell? ⟨b, 2, none⟩ = some ov := hq2.cell 2; have j2 : w2.frozen? ⟨b, 2, none⟩ = false := hq2.frozen 2)
  all_goals
    go_wp2
    go_end0
    refine ⟨rfl, ?_⟩
    exact open_step hp hB hBb hbk hv hown hfs (w1 := (w.alloc (.cells #[.int .i64 2, .slice A n c, .slice A' n' c'] 26)).alloc (.cells #[.int .i64 2, .slice A' n' c', .int .i64 0, .string ⟨#[]⟩] 131)) (((Below.refl _ w).alloc (Nat.le_refl _) _).alloc (by simp) _) ⟨hgrow.os, hgrow.tape, hgrow.output, hgrow.size, hgrow.block⟩ hown2 HF.out

set_option maxHeartbeats 1000000 in
set_option maxRecDepth 100000 in
theorem begin_3_n (B b d : Nat) (o : List UInt8) (fs : List Fr) (w : World) (h : WrAt B b d o fs w) (hB : B ≤ w.heap.size) (rs : List (UInt8 × UInt8)) (kids : List Tr) (A : Option Addr) (n c : Nat) (A' : Option Addr) (n' c' : Nat)
    (ht : TreeAt w (· < B) d (.mk 3 rs kids) [.int .i64 3, .slice A n c, .slice A' n' c']) (hfl : fs.length ≤ 1000000) :
    Calls Try.prog 36 #[.pointer (some ⟨b, 0, none⟩), .agg #[.int .i64 3, .slice A n c, .slice A' n' c'], .bool false] w (BPost B b d o (fs ++ [⟨3, kids, 0, []⟩]) w) := by
  obtain ⟨i0, hi0, hz0, hz1, hz2⟩ := info_parts openInfo
  obtain ⟨ov, cells, hw, hown, hfs⟩ := h
  have hlb := hw.lt
  obtain ⟨d, rfl⟩ : ∃ d', d = d' + 1 := by cases d with | zero => exact ht.elim | succ d => exact ⟨d, rfl⟩
  obtain ⟨A1, n1, c1, A2, n2, c2, e0, e1, e2, hn1, hcp, hrg, hkd⟩ := ht.parts
  injection e2 with e2 e2' e2''
  subst e2 e2' e2''
  have HF := Lib.hid (show FrAt w (· < B) (d + 1) ⟨3, kids, 0, []⟩ [.int .i64 3, .slice A' n' c', .int .i64 0, .string ⟨#[]⟩] from ⟨A', n', c', rfl, hcp.1, hcp.2, hkd.deeper (Nat.le_succ _), Nat.zero_le _⟩)
  clear ht e1 e0 hkd hrg
  obtain ⟨p, v, hp, hBb, hbk, hv⟩ := hw.split
  obtain ⟨q0, q1, q2, f0, f1, f2⟩ := blk3 hbk
  have hlw := hbk.lt
  have hne0 := wr_apart hbk hown
  have hne1 : some w.heap.size ≠ ov.ownBlock := fun e => by have := (hown.lt _ e.symm).2; omega
  clear hw
  go_enter Try.func36, Try.ntmps36
  go_wp2
  go_region_law (refine step_append_lies _ (by rfl) (.tmp 30) (.tmp 37) 95 (by rfl) B 131 i0 _ 4 56 Try.underlying95 hi0 hz0 hz1 hz2 rfl (by decide) _ fs.length cells (by rfl) (by exact (hown.alloc _).alloc _) ⟨w.heap.size + 1, 0, none⟩ 1 1 [.int .i64 3, .slice A' n' c', .int .i64 0, .string ⟨#[]⟩] (by rfl) rfl (by exact World.news_of_block (by exact heap_alloc_new2 w _ _)) (four_one _ _ _ _ _ _) (by decide) (by unfold maxLen; omega) (by omega) (by simp; omega) _ (by rfl) ?_; intro g2 cap2 w2 hown2 hgrow hat hlt2; have hq2 : Blk w2 b 97 #[p, v, ov] := Blk.grown (by exact (hbk.alloc _).alloc _) hgrow hne0; have k2 : w2.cell? ⟨b, 2, none⟩ = some ov := hq2.cell 2; have j2 : w2.frozen? ⟨b, 2, none⟩ = false := hq2.frozen 2)
  all_goals
    go_wp2
    go_end0
    refine ⟨rfl, ?_⟩
    exact open_step hp hB hBb hbk hv hown hfs (w1 := (w.alloc (.cells #[.int .i64 3, .slice A n c, .slice A' n' c'] 26)).alloc (.cells #[.int .i64 3, .slice A' n' c', .int .i64 0, .string ⟨#[]⟩] 131)) (((Below.refl _ w).alloc (Nat.le_refl _) _).alloc (by simp) _) ⟨hgrow.os, hgrow.tape, hgrow.output, hgrow.size, hgrow.block⟩ hown2 HF.out
end Go.Proofs.Ytjnhmcgjeljcmaa
