/- rex.writer.begin: a Star, Plus or Maybe. -/
import Derived.Test.YtjnhmcgjeljcmaaWn
import Derived.Deep.RegionHeld3
namespace Go.Proofs.Ytjnhmcgjeljcmaa
open Go.RowKit

set_option maxHeartbeats 1000000 in
set_option maxRecDepth 100000 in
theorem begin_sign (B b d : Nat) (o : List UInt8) (fs : List Fr) (w : World) (h : WrAt B b d o fs w) (hB : B ≤ w.heap.size) (k : Int) (hk : k = 4 ∨ k = 5 ∨ k = 6) (wi : Bool) (rs : List (UInt8 × UInt8)) (t0 : Tr) (kids : List Tr) (A : Option Addr) (n c : Nat) (A' : Option Addr) (n' c' : Nat)
    (ht : TreeAt w (· < B) d (.mk k rs (t0 :: kids)) [.int .i64 k, .slice A n c, .slice A' n' c']) (hfl : fs.length ≤ 1000000) :
    Calls Try.prog 36 #[.pointer (some ⟨b, 0, none⟩), .agg #[.int .i64 k, .slice A n c, .slice A' n' c'], .bool wi] w (BPost B b d o (fs ++ [⟨k, [t0], 0, signT k⟩]) w) := by
  obtain ⟨i0, hi0, hz0, hz1, hz2⟩ := info_parts openInfo
  obtain ⟨ov, cells, hw, hown, hfs⟩ := h
  have hlb := hw.lt
  obtain ⟨d, rfl⟩ : ∃ d', d = d' + 1 := by cases d with | zero => exact ht.elim | succ d => exact ⟨d, rfl⟩
  obtain ⟨A1, n1, c1, A2, n2, c2, e0, e1, e2, hn1, hcp, hrg, hkd⟩ := ht.parts
  injection e2 with e2 e2' e2''
  subst e2 e2' e2''
  have hn0 : 0 < n' := by have := hkd.1; simp at this; omega
  obtain ⟨bb, oo, rfl, hX, hcs⟩ := hkd.2 hn0
  have HF := Lib.hid (show FrAt w (· < B) (d + 1) ⟨k, [t0], 0, signT k⟩ [.int .i64 k, .slice (some ⟨bb, oo, none⟩) 1 c', .int .i64 0, .string ⟨(signT k).toArray⟩] from
    ⟨_, 1, c', rfl, by decide, by omega, ⟨rfl, fun _ => ⟨bb, oo, rfl, hX, fun i t' hi => by
      match i, hi with
      | 0, hi =>
        simp at hi
        subst hi
        obtain ⟨v0, v1, v2, q0, q1, q2, ht'⟩ := hcs 0 t0 rfl
        exact ⟨v0, v1, v2, q0, q1, q2, ht'.deeper (Nat.le_succ _)⟩⟩⟩, Nat.zero_le _⟩)
  have hk1 : (k == 1) = false := by rcases hk with rfl | rfl | rfl <;> rfl
  have hk2 : (k == 2) = false := by rcases hk with rfl | rfl | rfl <;> rfl
  have hk3 : (k == 3) = false := by rcases hk with rfl | rfl | rfl <;> rfl
  have hn1' : (0 : Int) < (n' : Int) := by omega
  have hc1' : (1 : Int) ≤ (c' : Int) := by omega
  clear ht e1 e0 hkd hrg hcs
  obtain ⟨p, v, hp, hBb, hbk, hv⟩ := hw.split
  obtain ⟨q0, q1, q2, f0, f1, f2⟩ := blk3 hbk
  have hlw := hbk.lt
  have hne0 := wr_apart hbk hown
  clear hw
  rcases hk with rfl | rfl | rfl
  · have hlN : b ≠ w.heap.size := by omega
    have hne1 : some w.heap.size ≠ ov.ownBlock := fun e => by have := (hown.lt _ e.symm).2; omega
    have mixed : Try.prog.follows .mixedOrders = true := by kernel_rfl
    go_enter Try.func36, Try.ntmps36
    go_wp2
    have BN := Blk.new w 26 #[.int .i64 4, .slice A n c, .slice (some ⟨bb, oo, none⟩) n' c']
    have BB := hbk.alloc (.cells #[.int .i64 4, .slice A n c, .slice (some ⟨bb, oo, none⟩) n' c'] 26)
    refine wp_region_held_drew (S := (fun W => W.cell? ⟨w.heap.size, 0, none⟩ = some (.int .i64 4) ∧ W.cell? ⟨w.heap.size, 2, none⟩ = some (.slice (some ⟨bb, oo, none⟩) n' c'))) mixed ⟨BN.cell 0, BN.cell 2⟩ (fun hS => ?_)
    refine wpAnyH_take (i := 0) (v := .pointer (some ⟨b, 0, none⟩)) rfl (by kernel_rfl) (by kernel_rfl) (by kernel_rfl) (fun _ _ _ h => h) (Or.inl ⟨by rfl, fun W hW => by have h0 := hW.1; have h2 := hW.2; go_simp⟩) hS ?_
    refine wpAnyH_take (i := 1) (v := .pointer (some ⟨b, 0, none⟩)) rfl (by kernel_rfl) (by kernel_rfl) (by kernel_rfl) (fun _ _ _ h => h) (Or.inl ⟨by rfl, fun W hW => by have h0 := hW.1; have h2 := hW.2; go_simp⟩) hS ?_
    refine wpAnyH_take (i := 2) (v := .pointer (some ⟨b, 0, none⟩)) rfl (by kernel_rfl) (by kernel_rfl) (by kernel_rfl) (fun _ _ _ h => h) (Or.inl ⟨by rfl, fun W hW => by have h0 := hW.1; have h2 := hW.2; go_simp⟩) hS ?_
    refine wpAnyH_take (i := 3) (v := .pointer (some ⟨b, 2, none⟩)) rfl (by kernel_rfl) (by kernel_rfl) (by kernel_rfl) (fun _ _ _ h => h) (Or.inl ⟨by rfl, fun W hW => by have h0 := hW.1; have h2 := hW.2; go_simp⟩) hS ?_
    refine wpAnyH_take (i := 5) (v := .pointer (some ⟨w.heap.size, 0, none⟩)) rfl (by kernel_rfl) (by kernel_rfl) (by kernel_rfl) (fun _ _ _ h => h) (Or.inl ⟨by rfl, fun W hW => by have h0 := hW.1; have h2 := hW.2; go_simp⟩) hS ?_
    refine wpAnyH_take (i := 7) (v := .pointer (some ⟨w.heap.size, 2, none⟩)) rfl (by kernel_rfl) (by kernel_rfl) (by kernel_rfl) (fun _ _ _ h => h) (Or.inl ⟨by rfl, fun W hW => by have h0 := hW.1; have h2 := hW.2; go_simp⟩) hS ?_
    refine wpAnyH_take (i := 10) (v := .pointer (some ⟨w.heap.size, 0, none⟩)) rfl (by kernel_rfl) (by kernel_rfl) (by kernel_rfl) (fun _ _ _ h => h) (Or.inl ⟨by rfl, fun W hW => by have h0 := hW.1; have h2 := hW.2; go_simp⟩) hS ?_
    refine wpAnyH_take (i := 6) (v := .int .i64 4) rfl (by kernel_rfl) (by kernel_rfl) (by kernel_rfl) (fun _ _ _ h => h) (Or.inl ⟨by rfl, fun W hW => by have h0 := hW.1; have h2 := hW.2; go_simp⟩) hS ?_
    refine wpAnyH_take (i := 8) (v := .slice (some ⟨bb, oo, none⟩) n' c') rfl (by kernel_rfl) (by kernel_rfl) (by kernel_rfl) (fun _ _ _ h => h) (Or.inl ⟨by rfl, fun W hW => by have h0 := hW.1; have h2 := hW.2; go_simp⟩) hS ?_
    refine wpAnyH_take (i := 11) (v := .int .i64 4) rfl (by kernel_rfl) (by kernel_rfl) (by kernel_rfl) (fun _ _ _ h => h) (Or.inl ⟨by rfl, fun W hW => by have h0 := hW.1; have h2 := hW.2; go_simp⟩) hS ?_
    refine wpAnyH_take (i := 9) (v := .slice (some ⟨bb, oo, none⟩) 1 c') rfl (by kernel_rfl) (by kernel_rfl) (by kernel_rfl) (fun _ _ _ h => h) (Or.inl ⟨by rfl, fun W hW => by have h0 := hW.1; have h2 := hW.2; go_simp⟩) hS ?_
    refine wpAnyH_ready (rs := [4, 12]) (by kernel_rfl) (by simp) ?_
    refine AllReadyH.cons rfl (fun K hK => ?_) (AllReadyH.cons rfl (fun K hK => ?_) AllReadyH.nil)
    · go_simp
      refine hK.out _ _ hS (fun hS => ?_)
      clear hK K
      refine wpAnyH_ready (rs := [12]) (by kernel_rfl) (by simp) ?_
      refine AllReadyH.cons rfl (fun K hK => ?_) AllReadyH.nil
      go_simp
      go_wp2_with fail
      refine (signText_any 4 _ (by decide)).mono ?_
      rintro e w3 ⟨rfl, rfl⟩
      refine hK.out _ _ hS (fun hS => ?_)
      clear hK K
      refine wpAnyH_take (i := 13) (v := .agg #[.int .i64 4, .slice (some ⟨bb, oo, none⟩) 1 c', .int .i64 0, .string ⟨(signT 4).toArray⟩]) rfl (by kernel_rfl) (by kernel_rfl) (by kernel_rfl) (fun _ _ _ h => h) (Or.inl ⟨by rfl, fun W hW => by have h0 := hW.1; have h2 := hW.2; go_simp⟩) hS ?_
      refine wpAnyH_ready (rs := [14]) (by kernel_rfl) (by simp) ?_
      refine AllReadyH.cons rfl (fun K hK => ?_) AllReadyH.nil
      go_simp
      refine hK.out _ _ ⟨(BN.alloc _).cell 0, (BN.alloc _).cell 2⟩ (fun hS => ?_)
      clear hK K
      refine wpAnyH_ready (rs := [15]) (by kernel_rfl) (by simp) ?_
      refine AllReadyH.cons rfl (fun K hK => ?_) AllReadyH.nil
      refine step_append_lies _ (by rfl) (.tmp 53) (.tmp 63) 95 (by rfl) B 131 i0 _ 4 56 Try.underlying95 hi0 hz0 hz1 hz2 rfl (by decide) _ fs.length cells (by rfl) (by exact (hown.alloc _).alloc _) ⟨w.heap.size + 1, 0, none⟩ 1 1 [.int .i64 4, .slice (some ⟨bb, oo, none⟩) 1 c', .int .i64 0, .string ⟨(signT 4).toArray⟩] (by rfl) rfl (by exact World.news_of_block (by exact heap_alloc_new2 w _ _)) (four_one _ _ _ _ _ _) (by decide) (by unfold maxLen; omega) (by omega) (by simp; omega) _ (by rfl) ?_
      intro g2 cap2 w2 hown2 hgrow hat hlt2
      have hq2 : Blk w2 b 97 #[p, v, ov] := Blk.grown (by exact BB.alloc _) hgrow hne0
      have hq3 : Blk w2 w.heap.size 26 #[.int .i64 4, .slice A n c, .slice (some ⟨bb, oo, none⟩) n' c'] := Blk.grown (by exact BN.alloc _) hgrow hne1
      obtain ⟨_, _, k2, _, _, j2⟩ := blk3 hq2
      refine hK.out _ _ ⟨hq3.cell 0, hq3.cell 2⟩ (fun hS => ?_)
      clear hK K
      refine wpAnyH_take (i := 16) (v := .pointer (some ⟨b, 0, none⟩)) rfl (by kernel_rfl) (by kernel_rfl) (by kernel_rfl) (fun _ _ _ h => h) (Or.inl ⟨by rfl, fun W hW => by have h0 := hW.1; have h2 := hW.2; go_simp⟩) hS ?_
      refine wpAnyH_take (i := 17) (v := .pointer (some ⟨b, 2, none⟩)) rfl (by kernel_rfl) (by kernel_rfl) (by kernel_rfl) (fun _ _ _ h => h) (Or.inl ⟨by rfl, fun W hW => by have h0 := hW.1; have h2 := hW.2; go_simp⟩) hS ?_
      refine wpAnyH_ready (rs := [18]) (by kernel_rfl) (by simp) ?_
      refine AllReadyH.cons rfl (fun K hK => ?_) AllReadyH.nil
      go_simp
      refine hK.out _ _ ⟨(hq3.far (by show w.heap.size ≠ b; omega) _).cell 0, (hq3.far (by show w.heap.size ≠ b; omega) _).cell 2⟩ (fun hS => ?_)
      refine wpAnyH_done (by kernel_rfl) ?_ _
      clear k2 j2
      go_wp2
      go_end0
      refine ⟨rfl, ?_⟩
      exact open_step hp hB hBb hbk hv hown hfs (w1 := (w.alloc (.cells #[.int .i64 4, .slice A n c, .slice (some ⟨bb, oo, none⟩) n' c'] 26)).alloc (.cells #[.int .i64 4, .slice (some ⟨bb, oo, none⟩) 1 c', .int .i64 0, .string ⟨(signT 4).toArray⟩] 131)) (((Below.refl _ w).alloc (Nat.le_refl _) _).alloc (by simp) _) ⟨hgrow.os, hgrow.tape, hgrow.output, hgrow.size, hgrow.block⟩ hown2 HF.out
    · go_simp
      go_wp2_with fail
      refine (signText_any 4 _ (by decide)).mono ?_
      rintro e w3 ⟨rfl, rfl⟩
      refine hK.out _ _ hS (fun hS => ?_)
      clear hK K
      refine wpAnyH_take (i := 13) (v := .agg #[.int .i64 4, .slice (some ⟨bb, oo, none⟩) 1 c', .int .i64 0, .string ⟨(signT 4).toArray⟩]) rfl (by kernel_rfl) (by kernel_rfl) (by kernel_rfl) (fun _ _ _ h => h) (Or.inl ⟨by rfl, fun W hW => by have h0 := hW.1; have h2 := hW.2; go_simp⟩) hS ?_
      refine wpAnyH_ready (rs := [4, 14]) (by kernel_rfl) (by simp) ?_
      refine AllReadyH.cons rfl (fun K hK => ?_) (AllReadyH.cons rfl (fun K hK => ?_) AllReadyH.nil)
      · go_simp
        refine hK.out _ _ hS (fun hS => ?_)
        clear hK K
        refine wpAnyH_ready (rs := [14]) (by kernel_rfl) (by simp) ?_
        refine AllReadyH.cons rfl (fun K hK => ?_) AllReadyH.nil
        go_simp
        refine hK.out _ _ ⟨(BN.alloc _).cell 0, (BN.alloc _).cell 2⟩ (fun hS => ?_)
        clear hK K
        refine wpAnyH_ready (rs := [15]) (by kernel_rfl) (by simp) ?_
        refine AllReadyH.cons rfl (fun K hK => ?_) AllReadyH.nil
        refine step_append_lies _ (by rfl) (.tmp 53) (.tmp 63) 95 (by rfl) B 131 i0 _ 4 56 Try.underlying95 hi0 hz0 hz1 hz2 rfl (by decide) _ fs.length cells (by rfl) (by exact (hown.alloc _).alloc _) ⟨w.heap.size + 1, 0, none⟩ 1 1 [.int .i64 4, .slice (some ⟨bb, oo, none⟩) 1 c', .int .i64 0, .string ⟨(signT 4).toArray⟩] (by rfl) rfl (by exact World.news_of_block (by exact heap_alloc_new2 w _ _)) (four_one _ _ _ _ _ _) (by decide) (by unfold maxLen; omega) (by omega) (by simp; omega) _ (by rfl) ?_
        intro g2 cap2 w2 hown2 hgrow hat hlt2
        have hq2 : Blk w2 b 97 #[p, v, ov] := Blk.grown (by exact BB.alloc _) hgrow hne0
        have hq3 : Blk w2 w.heap.size 26 #[.int .i64 4, .slice A n c, .slice (some ⟨bb, oo, none⟩) n' c'] := Blk.grown (by exact BN.alloc _) hgrow hne1
        obtain ⟨_, _, k2, _, _, j2⟩ := blk3 hq2
        refine hK.out _ _ ⟨hq3.cell 0, hq3.cell 2⟩ (fun hS => ?_)
        clear hK K
        refine wpAnyH_take (i := 16) (v := .pointer (some ⟨b, 0, none⟩)) rfl (by kernel_rfl) (by kernel_rfl) (by kernel_rfl) (fun _ _ _ h => h) (Or.inl ⟨by rfl, fun W hW => by have h0 := hW.1; have h2 := hW.2; go_simp⟩) hS ?_
        refine wpAnyH_take (i := 17) (v := .pointer (some ⟨b, 2, none⟩)) rfl (by kernel_rfl) (by kernel_rfl) (by kernel_rfl) (fun _ _ _ h => h) (Or.inl ⟨by rfl, fun W hW => by have h0 := hW.1; have h2 := hW.2; go_simp⟩) hS ?_
        refine wpAnyH_ready (rs := [18]) (by kernel_rfl) (by simp) ?_
        refine AllReadyH.cons rfl (fun K hK => ?_) AllReadyH.nil
        go_simp
        refine hK.out _ _ ⟨(hq3.far (by show w.heap.size ≠ b; omega) _).cell 0, (hq3.far (by show w.heap.size ≠ b; omega) _).cell 2⟩ (fun hS => ?_)
        refine wpAnyH_done (by kernel_rfl) ?_ _
        clear k2 j2
        go_wp2
        go_end0
        refine ⟨rfl, ?_⟩
        exact open_step hp hB hBb hbk hv hown hfs (w1 := (w.alloc (.cells #[.int .i64 4, .slice A n c, .slice (some ⟨bb, oo, none⟩) n' c'] 26)).alloc (.cells #[.int .i64 4, .slice (some ⟨bb, oo, none⟩) 1 c', .int .i64 0, .string ⟨(signT 4).toArray⟩] 131)) (((Below.refl _ w).alloc (Nat.le_refl _) _).alloc (by simp) _) ⟨hgrow.os, hgrow.tape, hgrow.output, hgrow.size, hgrow.block⟩ hown2 HF.out
      · go_simp
        refine hK.out _ _ ⟨(BN.alloc _).cell 0, (BN.alloc _).cell 2⟩ (fun hS => ?_)
        clear hK K
        refine wpAnyH_ready (rs := [4]) (by kernel_rfl) (by simp) ?_
        refine AllReadyH.cons rfl (fun K hK => ?_) AllReadyH.nil
        go_simp
        refine hK.out _ _ hS (fun hS => ?_)
        clear hK K
        refine wpAnyH_ready (rs := [15]) (by kernel_rfl) (by simp) ?_
        refine AllReadyH.cons rfl (fun K hK => ?_) AllReadyH.nil
        refine step_append_lies _ (by rfl) (.tmp 53) (.tmp 63) 95 (by rfl) B 131 i0 _ 4 56 Try.underlying95 hi0 hz0 hz1 hz2 rfl (by decide) _ fs.length cells (by rfl) (by exact (hown.alloc _).alloc _) ⟨w.heap.size + 1, 0, none⟩ 1 1 [.int .i64 4, .slice (some ⟨bb, oo, none⟩) 1 c', .int .i64 0, .string ⟨(signT 4).toArray⟩] (by rfl) rfl (by exact World.news_of_block (by exact heap_alloc_new2 w _ _)) (four_one _ _ _ _ _ _) (by decide) (by unfold maxLen; omega) (by omega) (by simp; omega) _ (by rfl) ?_
        intro g2 cap2 w2 hown2 hgrow hat hlt2
        have hq2 : Blk w2 b 97 #[p, v, ov] := Blk.grown (by exact BB.alloc _) hgrow hne0
        have hq3 : Blk w2 w.heap.size 26 #[.int .i64 4, .slice A n c, .slice (some ⟨bb, oo, none⟩) n' c'] := Blk.grown (by exact BN.alloc _) hgrow hne1
        obtain ⟨_, _, k2, _, _, j2⟩ := blk3 hq2
        refine hK.out _ _ ⟨hq3.cell 0, hq3.cell 2⟩ (fun hS => ?_)
        clear hK K
        refine wpAnyH_take (i := 16) (v := .pointer (some ⟨b, 0, none⟩)) rfl (by kernel_rfl) (by kernel_rfl) (by kernel_rfl) (fun _ _ _ h => h) (Or.inl ⟨by rfl, fun W hW => by have h0 := hW.1; have h2 := hW.2; go_simp⟩) hS ?_
        refine wpAnyH_take (i := 17) (v := .pointer (some ⟨b, 2, none⟩)) rfl (by kernel_rfl) (by kernel_rfl) (by kernel_rfl) (fun _ _ _ h => h) (Or.inl ⟨by rfl, fun W hW => by have h0 := hW.1; have h2 := hW.2; go_simp⟩) hS ?_
        refine wpAnyH_ready (rs := [18]) (by kernel_rfl) (by simp) ?_
        refine AllReadyH.cons rfl (fun K hK => ?_) AllReadyH.nil
        go_simp
        refine hK.out _ _ ⟨(hq3.far (by show w.heap.size ≠ b; omega) _).cell 0, (hq3.far (by show w.heap.size ≠ b; omega) _).cell 2⟩ (fun hS => ?_)
        refine wpAnyH_done (by kernel_rfl) ?_ _
        clear k2 j2
        go_wp2
        go_end0
        refine ⟨rfl, ?_⟩
        exact open_step hp hB hBb hbk hv hown hfs (w1 := (w.alloc (.cells #[.int .i64 4, .slice A n c, .slice (some ⟨bb, oo, none⟩) n' c'] 26)).alloc (.cells #[.int .i64 4, .slice (some ⟨bb, oo, none⟩) 1 c', .int .i64 0, .string ⟨(signT 4).toArray⟩] 131)) (((Below.refl _ w).alloc (Nat.le_refl _) _).alloc (by simp) _) ⟨hgrow.os, hgrow.tape, hgrow.output, hgrow.size, hgrow.block⟩ hown2 HF.out
  · have hlN : b ≠ w.heap.size := by omega
    have hne1 : some w.heap.size ≠ ov.ownBlock := fun e => by have := (hown.lt _ e.symm).2; omega
    have mixed : Try.prog.follows .mixedOrders = true := by kernel_rfl
    go_enter Try.func36, Try.ntmps36
    go_wp2
    have BN := Blk.new w 26 #[.int .i64 5, .slice A n c, .slice (some ⟨bb, oo, none⟩) n' c']
    have BB := hbk.alloc (.cells #[.int .i64 5, .slice A n c, .slice (some ⟨bb, oo, none⟩) n' c'] 26)
    refine wp_region_held_drew (S := (fun W => W.cell? ⟨w.heap.size, 0, none⟩ = some (.int .i64 5) ∧ W.cell? ⟨w.heap.size, 2, none⟩ = some (.slice (some ⟨bb, oo, none⟩) n' c'))) mixed ⟨BN.cell 0, BN.cell 2⟩ (fun hS => ?_)
    refine wpAnyH_take (i := 0) (v := .pointer (some ⟨b, 0, none⟩)) rfl (by kernel_rfl) (by kernel_rfl) (by kernel_rfl) (fun _ _ _ h => h) (Or.inl ⟨by rfl, fun W hW => by have h0 := hW.1; have h2 := hW.2; go_simp⟩) hS ?_
    refine wpAnyH_take (i := 1) (v := .pointer (some ⟨b, 0, none⟩)) rfl (by kernel_rfl) (by kernel_rfl) (by kernel_rfl) (fun _ _ _ h => h) (Or.inl ⟨by rfl, fun W hW => by have h0 := hW.1; have h2 := hW.2; go_simp⟩) hS ?_
    refine wpAnyH_take (i := 2) (v := .pointer (some ⟨b, 0, none⟩)) rfl (by kernel_rfl) (by kernel_rfl) (by kernel_rfl) (fun _ _ _ h => h) (Or.inl ⟨by rfl, fun W hW => by have h0 := hW.1; have h2 := hW.2; go_simp⟩) hS ?_
    refine wpAnyH_take (i := 3) (v := .pointer (some ⟨b, 2, none⟩)) rfl (by kernel_rfl) (by kernel_rfl) (by kernel_rfl) (fun _ _ _ h => h) (Or.inl ⟨by rfl, fun W hW => by have h0 := hW.1; have h2 := hW.2; go_simp⟩) hS ?_
    refine wpAnyH_take (i := 5) (v := .pointer (some ⟨w.heap.size, 0, none⟩)) rfl (by kernel_rfl) (by kernel_rfl) (by kernel_rfl) (fun _ _ _ h => h) (Or.inl ⟨by rfl, fun W hW => by have h0 := hW.1; have h2 := hW.2; go_simp⟩) hS ?_
    refine wpAnyH_take (i := 7) (v := .pointer (some ⟨w.heap.size, 2, none⟩)) rfl (by kernel_rfl) (by kernel_rfl) (by kernel_rfl) (fun _ _ _ h => h) (Or.inl ⟨by rfl, fun W hW => by have h0 := hW.1; have h2 := hW.2; go_simp⟩) hS ?_
    refine wpAnyH_take (i := 10) (v := .pointer (some ⟨w.heap.size, 0, none⟩)) rfl (by kernel_rfl) (by kernel_rfl) (by kernel_rfl) (fun _ _ _ h => h) (Or.inl ⟨by rfl, fun W hW => by have h0 := hW.1; have h2 := hW.2; go_simp⟩) hS ?_
    refine wpAnyH_take (i := 6) (v := .int .i64 5) rfl (by kernel_rfl) (by kernel_rfl) (by kernel_rfl) (fun _ _ _ h => h) (Or.inl ⟨by rfl, fun W hW => by have h0 := hW.1; have h2 := hW.2; go_simp⟩) hS ?_
    refine wpAnyH_take (i := 8) (v := .slice (some ⟨bb, oo, none⟩) n' c') rfl (by kernel_rfl) (by kernel_rfl) (by kernel_rfl) (fun _ _ _ h => h) (Or.inl ⟨by rfl, fun W hW => by have h0 := hW.1; have h2 := hW.2; go_simp⟩) hS ?_
    refine wpAnyH_take (i := 11) (v := .int .i64 5) rfl (by kernel_rfl) (by kernel_rfl) (by kernel_rfl) (fun _ _ _ h => h) (Or.inl ⟨by rfl, fun W hW => by have h0 := hW.1; have h2 := hW.2; go_simp⟩) hS ?_
    refine wpAnyH_take (i := 9) (v := .slice (some ⟨bb, oo, none⟩) 1 c') rfl (by kernel_rfl) (by kernel_rfl) (by kernel_rfl) (fun _ _ _ h => h) (Or.inl ⟨by rfl, fun W hW => by have h0 := hW.1; have h2 := hW.2; go_simp⟩) hS ?_
    refine wpAnyH_ready (rs := [4, 12]) (by kernel_rfl) (by simp) ?_
    refine AllReadyH.cons rfl (fun K hK => ?_) (AllReadyH.cons rfl (fun K hK => ?_) AllReadyH.nil)
    · go_simp
      refine hK.out _ _ hS (fun hS => ?_)
      clear hK K
      refine wpAnyH_ready (rs := [12]) (by kernel_rfl) (by simp) ?_
      refine AllReadyH.cons rfl (fun K hK => ?_) AllReadyH.nil
      go_simp
      go_wp2_with fail
      refine (signText_any 5 _ (by decide)).mono ?_
      rintro e w3 ⟨rfl, rfl⟩
      refine hK.out _ _ hS (fun hS => ?_)
      clear hK K
      refine wpAnyH_take (i := 13) (v := .agg #[.int .i64 5, .slice (some ⟨bb, oo, none⟩) 1 c', .int .i64 0, .string ⟨(signT 5).toArray⟩]) rfl (by kernel_rfl) (by kernel_rfl) (by kernel_rfl) (fun _ _ _ h => h) (Or.inl ⟨by rfl, fun W hW => by have h0 := hW.1; have h2 := hW.2; go_simp⟩) hS ?_
      refine wpAnyH_ready (rs := [14]) (by kernel_rfl) (by simp) ?_
      refine AllReadyH.cons rfl (fun K hK => ?_) AllReadyH.nil
      go_simp
      refine hK.out _ _ ⟨(BN.alloc _).cell 0, (BN.alloc _).cell 2⟩ (fun hS => ?_)
      clear hK K
      refine wpAnyH_ready (rs := [15]) (by kernel_rfl) (by simp) ?_
      refine AllReadyH.cons rfl (fun K hK => ?_) AllReadyH.nil
      refine step_append_lies _ (by rfl) (.tmp 53) (.tmp 63) 95 (by rfl) B 131 i0 _ 4 56 Try.underlying95 hi0 hz0 hz1 hz2 rfl (by decide) _ fs.length cells (by rfl) (by exact (hown.alloc _).alloc _) ⟨w.heap.size + 1, 0, none⟩ 1 1 [.int .i64 5, .slice (some ⟨bb, oo, none⟩) 1 c', .int .i64 0, .string ⟨(signT 5).toArray⟩] (by rfl) rfl (by exact World.news_of_block (by exact heap_alloc_new2 w _ _)) (four_one _ _ _ _ _ _) (by decide) (by unfold maxLen; omega) (by omega) (by simp; omega) _ (by rfl) ?_
      intro g2 cap2 w2 hown2 hgrow hat hlt2
      have hq2 : Blk w2 b 97 #[p, v, ov] := Blk.grown (by exact BB.alloc _) hgrow hne0
      have hq3 : Blk w2 w.heap.size 26 #[.int .i64 5, .slice A n c, .slice (some ⟨bb, oo, none⟩) n' c'] := Blk.grown (by exact BN.alloc _) hgrow hne1
      obtain ⟨_, _, k2, _, _, j2⟩ := blk3 hq2
      refine hK.out _ _ ⟨hq3.cell 0, hq3.cell 2⟩ (fun hS => ?_)
      clear hK K
      refine wpAnyH_take (i := 16) (v := .pointer (some ⟨b, 0, none⟩)) rfl (by kernel_rfl) (by kernel_rfl) (by kernel_rfl) (fun _ _ _ h => h) (Or.inl ⟨by rfl, fun W hW => by have h0 := hW.1; have h2 := hW.2; go_simp⟩) hS ?_
      refine wpAnyH_take (i := 17) (v := .pointer (some ⟨b, 2, none⟩)) rfl (by kernel_rfl) (by kernel_rfl) (by kernel_rfl) (fun _ _ _ h => h) (Or.inl ⟨by rfl, fun W hW => by have h0 := hW.1; have h2 := hW.2; go_simp⟩) hS ?_
      refine wpAnyH_ready (rs := [18]) (by kernel_rfl) (by simp) ?_
      refine AllReadyH.cons rfl (fun K hK => ?_) AllReadyH.nil
      go_simp
      refine hK.out _ _ ⟨(hq3.far (by show w.heap.size ≠ b; omega) _).cell 0, (hq3.far (by show w.heap.size ≠ b; omega) _).cell 2⟩ (fun hS => ?_)
      refine wpAnyH_done (by kernel_rfl) ?_ _
      clear k2 j2
      go_wp2
      go_end0
      refine ⟨rfl, ?_⟩
      exact open_step hp hB hBb hbk hv hown hfs (w1 := (w.alloc (.cells #[.int .i64 5, .slice A n c, .slice (some ⟨bb, oo, none⟩) n' c'] 26)).alloc (.cells #[.int .i64 5, .slice (some ⟨bb, oo, none⟩) 1 c', .int .i64 0, .string ⟨(signT 5).toArray⟩] 131)) (((Below.refl _ w).alloc (Nat.le_refl _) _).alloc (by simp) _) ⟨hgrow.os, hgrow.tape, hgrow.output, hgrow.size, hgrow.block⟩ hown2 HF.out
    · go_simp
      go_wp2_with fail
      refine (signText_any 5 _ (by decide)).mono ?_
      rintro e w3 ⟨rfl, rfl⟩
      refine hK.out _ _ hS (fun hS => ?_)
      clear hK K
      refine wpAnyH_take (i := 13) (v := .agg #[.int .i64 5, .slice (some ⟨bb, oo, none⟩) 1 c', .int .i64 0, .string ⟨(signT 5).toArray⟩]) rfl (by kernel_rfl) (by kernel_rfl) (by kernel_rfl) (fun _ _ _ h => h) (Or.inl ⟨by rfl, fun W hW => by have h0 := hW.1; have h2 := hW.2; go_simp⟩) hS ?_
      refine wpAnyH_ready (rs := [4, 14]) (by kernel_rfl) (by simp) ?_
      refine AllReadyH.cons rfl (fun K hK => ?_) (AllReadyH.cons rfl (fun K hK => ?_) AllReadyH.nil)
      · go_simp
        refine hK.out _ _ hS (fun hS => ?_)
        clear hK K
        refine wpAnyH_ready (rs := [14]) (by kernel_rfl) (by simp) ?_
        refine AllReadyH.cons rfl (fun K hK => ?_) AllReadyH.nil
        go_simp
        refine hK.out _ _ ⟨(BN.alloc _).cell 0, (BN.alloc _).cell 2⟩ (fun hS => ?_)
        clear hK K
        refine wpAnyH_ready (rs := [15]) (by kernel_rfl) (by simp) ?_
        refine AllReadyH.cons rfl (fun K hK => ?_) AllReadyH.nil
        refine step_append_lies _ (by rfl) (.tmp 53) (.tmp 63) 95 (by rfl) B 131 i0 _ 4 56 Try.underlying95 hi0 hz0 hz1 hz2 rfl (by decide) _ fs.length cells (by rfl) (by exact (hown.alloc _).alloc _) ⟨w.heap.size + 1, 0, none⟩ 1 1 [.int .i64 5, .slice (some ⟨bb, oo, none⟩) 1 c', .int .i64 0, .string ⟨(signT 5).toArray⟩] (by rfl) rfl (by exact World.news_of_block (by exact heap_alloc_new2 w _ _)) (four_one _ _ _ _ _ _) (by decide) (by unfold maxLen; omega) (by omega) (by simp; omega) _ (by rfl) ?_
        intro g2 cap2 w2 hown2 hgrow hat hlt2
        have hq2 : Blk w2 b 97 #[p, v, ov] := Blk.grown (by exact BB.alloc _) hgrow hne0
        have hq3 : Blk w2 w.heap.size 26 #[.int .i64 5, .slice A n c, .slice (some ⟨bb, oo, none⟩) n' c'] := Blk.grown (by exact BN.alloc _) hgrow hne1
        obtain ⟨_, _, k2, _, _, j2⟩ := blk3 hq2
        refine hK.out _ _ ⟨hq3.cell 0, hq3.cell 2⟩ (fun hS => ?_)
        clear hK K
        refine wpAnyH_take (i := 16) (v := .pointer (some ⟨b, 0, none⟩)) rfl (by kernel_rfl) (by kernel_rfl) (by kernel_rfl) (fun _ _ _ h => h) (Or.inl ⟨by rfl, fun W hW => by have h0 := hW.1; have h2 := hW.2; go_simp⟩) hS ?_
        refine wpAnyH_take (i := 17) (v := .pointer (some ⟨b, 2, none⟩)) rfl (by kernel_rfl) (by kernel_rfl) (by kernel_rfl) (fun _ _ _ h => h) (Or.inl ⟨by rfl, fun W hW => by have h0 := hW.1; have h2 := hW.2; go_simp⟩) hS ?_
        refine wpAnyH_ready (rs := [18]) (by kernel_rfl) (by simp) ?_
        refine AllReadyH.cons rfl (fun K hK => ?_) AllReadyH.nil
        go_simp
        refine hK.out _ _ ⟨(hq3.far (by show w.heap.size ≠ b; omega) _).cell 0, (hq3.far (by show w.heap.size ≠ b; omega) _).cell 2⟩ (fun hS => ?_)
        refine wpAnyH_done (by kernel_rfl) ?_ _
        clear k2 j2
        go_wp2
        go_end0
        refine ⟨rfl, ?_⟩
        exact open_step hp hB hBb hbk hv hown hfs (w1 := (w.alloc (.cells #[.int .i64 5, .slice A n c, .slice (some ⟨bb, oo, none⟩) n' c'] 26)).alloc (.cells #[.int .i64 5, .slice (some ⟨bb, oo, none⟩) 1 c', .int .i64 0, .string ⟨(signT 5).toArray⟩] 131)) (((Below.refl _ w).alloc (Nat.le_refl _) _).alloc (by simp) _) ⟨hgrow.os, hgrow.tape, hgrow.output, hgrow.size, hgrow.block⟩ hown2 HF.out
      · go_simp
        refine hK.out _ _ ⟨(BN.alloc _).cell 0, (BN.alloc _).cell 2⟩ (fun hS => ?_)
        clear hK K
        refine wpAnyH_ready (rs := [4]) (by kernel_rfl) (by simp) ?_
        refine AllReadyH.cons rfl (fun K hK => ?_) AllReadyH.nil
        go_simp
        refine hK.out _ _ hS (fun hS => ?_)
        clear hK K
        refine wpAnyH_ready (rs := [15]) (by kernel_rfl) (by simp) ?_
        refine AllReadyH.cons rfl (fun K hK => ?_) AllReadyH.nil
        refine step_append_lies _ (by rfl) (.tmp 53) (.tmp 63) 95 (by rfl) B 131 i0 _ 4 56 Try.underlying95 hi0 hz0 hz1 hz2 rfl (by decide) _ fs.length cells (by rfl) (by exact (hown.alloc _).alloc _) ⟨w.heap.size + 1, 0, none⟩ 1 1 [.int .i64 5, .slice (some ⟨bb, oo, none⟩) 1 c', .int .i64 0, .string ⟨(signT 5).toArray⟩] (by rfl) rfl (by exact World.news_of_block (by exact heap_alloc_new2 w _ _)) (four_one _ _ _ _ _ _) (by decide) (by unfold maxLen; omega) (by omega) (by simp; omega) _ (by rfl) ?_
        intro g2 cap2 w2 hown2 hgrow hat hlt2
        have hq2 : Blk w2 b 97 #[p, v, ov] := Blk.grown (by exact BB.alloc _) hgrow hne0
        have hq3 : Blk w2 w.heap.size 26 #[.int .i64 5, .slice A n c, .slice (some ⟨bb, oo, none⟩) n' c'] := Blk.grown (by exact BN.alloc _) hgrow hne1
        obtain ⟨_, _, k2, _, _, j2⟩ := blk3 hq2
        refine hK.out _ _ ⟨hq3.cell 0, hq3.cell 2⟩ (fun hS => ?_)
        clear hK K
        refine wpAnyH_take (i := 16) (v := .pointer (some ⟨b, 0, none⟩)) rfl (by kernel_rfl) (by kernel_rfl) (by kernel_rfl) (fun _ _ _ h => h) (Or.inl ⟨by rfl, fun W hW => by have h0 := hW.1; have h2 := hW.2; go_simp⟩) hS ?_
        refine wpAnyH_take (i := 17) (v := .pointer (some ⟨b, 2, none⟩)) rfl (by kernel_rfl) (by kernel_rfl) (by kernel_rfl) (fun _ _ _ h => h) (Or.inl ⟨by rfl, fun W hW => by have h0 := hW.1; have h2 := hW.2; go_simp⟩) hS ?_
        refine wpAnyH_ready (rs := [18]) (by kernel_rfl) (by simp) ?_
        refine AllReadyH.cons rfl (fun K hK => ?_) AllReadyH.nil
        go_simp
        refine hK.out _ _ ⟨(hq3.far (by show w.heap.size ≠ b; omega) _).cell 0, (hq3.far (by show w.heap.size ≠ b; omega) _).cell 2⟩ (fun hS => ?_)
        refine wpAnyH_done (by kernel_rfl) ?_ _
        clear k2 j2
        go_wp2
        go_end0
        refine ⟨rfl, ?_⟩
        exact open_step hp hB hBb hbk hv hown hfs (w1 := (w.alloc (.cells #[.int .i64 5, .slice A n c, .slice (some ⟨bb, oo, none⟩) n' c'] 26)).alloc (.cells #[.int .i64 5, .slice (some ⟨bb, oo, none⟩) 1 c', .int .i64 0, .string ⟨(signT 5).toArray⟩] 131)) (((Below.refl _ w).alloc (Nat.le_refl _) _).alloc (by simp) _) ⟨hgrow.os, hgrow.tape, hgrow.output, hgrow.size, hgrow.block⟩ hown2 HF.out
  · have hlN : b ≠ w.heap.size := by omega
    have hne1 : some w.heap.size ≠ ov.ownBlock := fun e => by have := (hown.lt _ e.symm).2; omega
    have mixed : Try.prog.follows .mixedOrders = true := by kernel_rfl
    go_enter Try.func36, Try.ntmps36
    go_wp2
    have BN := Blk.new w 26 #[.int .i64 6, .slice A n c, .slice (some ⟨bb, oo, none⟩) n' c']
    have BB := hbk.alloc (.cells #[.int .i64 6, .slice A n c, .slice (some ⟨bb, oo, none⟩) n' c'] 26)
    refine wp_region_held_drew (S := (fun W => W.cell? ⟨w.heap.size, 0, none⟩ = some (.int .i64 6) ∧ W.cell? ⟨w.heap.size, 2, none⟩ = some (.slice (some ⟨bb, oo, none⟩) n' c'))) mixed ⟨BN.cell 0, BN.cell 2⟩ (fun hS => ?_)
    refine wpAnyH_take (i := 0) (v := .pointer (some ⟨b, 0, none⟩)) rfl (by kernel_rfl) (by kernel_rfl) (by kernel_rfl) (fun _ _ _ h => h) (Or.inl ⟨by rfl, fun W hW => by have h0 := hW.1; have h2 := hW.2; go_simp⟩) hS ?_
    refine wpAnyH_take (i := 1) (v := .pointer (some ⟨b, 0, none⟩)) rfl (by kernel_rfl) (by kernel_rfl) (by kernel_rfl) (fun _ _ _ h => h) (Or.inl ⟨by rfl, fun W hW => by have h0 := hW.1; have h2 := hW.2; go_simp⟩) hS ?_
    refine wpAnyH_take (i := 2) (v := .pointer (some ⟨b, 0, none⟩)) rfl (by kernel_rfl) (by kernel_rfl) (by kernel_rfl) (fun _ _ _ h => h) (Or.inl ⟨by rfl, fun W hW => by have h0 := hW.1; have h2 := hW.2; go_simp⟩) hS ?_
    refine wpAnyH_take (i := 3) (v := .pointer (some ⟨b, 2, none⟩)) rfl (by kernel_rfl) (by kernel_rfl) (by kernel_rfl) (fun _ _ _ h => h) (Or.inl ⟨by rfl, fun W hW => by have h0 := hW.1; have h2 := hW.2; go_simp⟩) hS ?_
    refine wpAnyH_take (i := 5) (v := .pointer (some ⟨w.heap.size, 0, none⟩)) rfl (by kernel_rfl) (by kernel_rfl) (by kernel_rfl) (fun _ _ _ h => h) (Or.inl ⟨by rfl, fun W hW => by have h0 := hW.1; have h2 := hW.2; go_simp⟩) hS ?_
    refine wpAnyH_take (i := 7) (v := .pointer (some ⟨w.heap.size, 2, none⟩)) rfl (by kernel_rfl) (by kernel_rfl) (by kernel_rfl) (fun _ _ _ h => h) (Or.inl ⟨by rfl, fun W hW => by have h0 := hW.1; have h2 := hW.2; go_simp⟩) hS ?_
    refine wpAnyH_take (i := 10) (v := .pointer (some ⟨w.heap.size, 0, none⟩)) rfl (by kernel_rfl) (by kernel_rfl) (by kernel_rfl) (fun _ _ _ h => h) (Or.inl ⟨by rfl, fun W hW => by have h0 := hW.1; have h2 := hW.2; go_simp⟩) hS ?_
    refine wpAnyH_take (i := 6) (v := .int .i64 6) rfl (by kernel_rfl) (by kernel_rfl) (by kernel_rfl) (fun _ _ _ h => h) (Or.inl ⟨by rfl, fun W hW => by have h0 := hW.1; have h2 := hW.2; go_simp⟩) hS ?_
    refine wpAnyH_take (i := 8) (v := .slice (some ⟨bb, oo, none⟩) n' c') rfl (by kernel_rfl) (by kernel_rfl) (by kernel_rfl) (fun _ _ _ h => h) (Or.inl ⟨by rfl, fun W hW => by have h0 := hW.1; have h2 := hW.2; go_simp⟩) hS ?_
    refine wpAnyH_take (i := 11) (v := .int .i64 6) rfl (by kernel_rfl) (by kernel_rfl) (by kernel_rfl) (fun _ _ _ h => h) (Or.inl ⟨by rfl, fun W hW => by have h0 := hW.1; have h2 := hW.2; go_simp⟩) hS ?_
    refine wpAnyH_take (i := 9) (v := .slice (some ⟨bb, oo, none⟩) 1 c') rfl (by kernel_rfl) (by kernel_rfl) (by kernel_rfl) (fun _ _ _ h => h) (Or.inl ⟨by rfl, fun W hW => by have h0 := hW.1; have h2 := hW.2; go_simp⟩) hS ?_
    refine wpAnyH_ready (rs := [4, 12]) (by kernel_rfl) (by simp) ?_
    refine AllReadyH.cons rfl (fun K hK => ?_) (AllReadyH.cons rfl (fun K hK => ?_) AllReadyH.nil)
    · go_simp
      refine hK.out _ _ hS (fun hS => ?_)
      clear hK K
      refine wpAnyH_ready (rs := [12]) (by kernel_rfl) (by simp) ?_
      refine AllReadyH.cons rfl (fun K hK => ?_) AllReadyH.nil
      go_simp
      go_wp2_with fail
      refine (signText_any 6 _ (by decide)).mono ?_
      rintro e w3 ⟨rfl, rfl⟩
      refine hK.out _ _ hS (fun hS => ?_)
      clear hK K
      refine wpAnyH_take (i := 13) (v := .agg #[.int .i64 6, .slice (some ⟨bb, oo, none⟩) 1 c', .int .i64 0, .string ⟨(signT 6).toArray⟩]) rfl (by kernel_rfl) (by kernel_rfl) (by kernel_rfl) (fun _ _ _ h => h) (Or.inl ⟨by rfl, fun W hW => by have h0 := hW.1; have h2 := hW.2; go_simp⟩) hS ?_
      refine wpAnyH_ready (rs := [14]) (by kernel_rfl) (by simp) ?_
      refine AllReadyH.cons rfl (fun K hK => ?_) AllReadyH.nil
      go_simp
      refine hK.out _ _ ⟨(BN.alloc _).cell 0, (BN.alloc _).cell 2⟩ (fun hS => ?_)
      clear hK K
      refine wpAnyH_ready (rs := [15]) (by kernel_rfl) (by simp) ?_
      refine AllReadyH.cons rfl (fun K hK => ?_) AllReadyH.nil
      refine step_append_lies _ (by rfl) (.tmp 53) (.tmp 63) 95 (by rfl) B 131 i0 _ 4 56 Try.underlying95 hi0 hz0 hz1 hz2 rfl (by decide) _ fs.length cells (by rfl) (by exact (hown.alloc _).alloc _) ⟨w.heap.size + 1, 0, none⟩ 1 1 [.int .i64 6, .slice (some ⟨bb, oo, none⟩) 1 c', .int .i64 0, .string ⟨(signT 6).toArray⟩] (by rfl) rfl (by exact World.news_of_block (by exact heap_alloc_new2 w _ _)) (four_one _ _ _ _ _ _) (by decide) (by unfold maxLen; omega) (by omega) (by simp; omega) _ (by rfl) ?_
      intro g2 cap2 w2 hown2 hgrow hat hlt2
      have hq2 : Blk w2 b 97 #[p, v, ov] := Blk.grown (by exact BB.alloc _) hgrow hne0
      have hq3 : Blk w2 w.heap.size 26 #[.int .i64 6, .slice A n c, .slice (some ⟨bb, oo, none⟩) n' c'] := Blk.grown (by exact BN.alloc _) hgrow hne1
      obtain ⟨_, _, k2, _, _, j2⟩ := blk3 hq2
      refine hK.out _ _ ⟨hq3.cell 0, hq3.cell 2⟩ (fun hS => ?_)
      clear hK K
      refine wpAnyH_take (i := 16) (v := .pointer (some ⟨b, 0, none⟩)) rfl (by kernel_rfl) (by kernel_rfl) (by kernel_rfl) (fun _ _ _ h => h) (Or.inl ⟨by rfl, fun W hW => by have h0 := hW.1; have h2 := hW.2; go_simp⟩) hS ?_
      refine wpAnyH_take (i := 17) (v := .pointer (some ⟨b, 2, none⟩)) rfl (by kernel_rfl) (by kernel_rfl) (by kernel_rfl) (fun _ _ _ h => h) (Or.inl ⟨by rfl, fun W hW => by have h0 := hW.1; have h2 := hW.2; go_simp⟩) hS ?_
      refine wpAnyH_ready (rs := [18]) (by kernel_rfl) (by simp) ?_
      refine AllReadyH.cons rfl (fun K hK => ?_) AllReadyH.nil
      go_simp
      refine hK.out _ _ ⟨(hq3.far (by show w.heap.size ≠ b; omega) _).cell 0, (hq3.far (by show w.heap.size ≠ b; omega) _).cell 2⟩ (fun hS => ?_)
      refine wpAnyH_done (by kernel_rfl) ?_ _
      clear k2 j2
      go_wp2
      go_end0
      refine ⟨rfl, ?_⟩
      exact open_step hp hB hBb hbk hv hown hfs (w1 := (w.alloc (.cells #[.int .i64 6, .slice A n c, .slice (some ⟨bb, oo, none⟩) n' c'] 26)).alloc (.cells #[.int .i64 6, .slice (some ⟨bb, oo, none⟩) 1 c', .int .i64 0, .string ⟨(signT 6).toArray⟩] 131)) (((Below.refl _ w).alloc (Nat.le_refl _) _).alloc (by simp) _) ⟨hgrow.os, hgrow.tape, hgrow.output, hgrow.size, hgrow.block⟩ hown2 HF.out
    · go_simp
      go_wp2_with fail
      refine (signText_any 6 _ (by decide)).mono ?_
      rintro e w3 ⟨rfl, rfl⟩
      refine hK.out _ _ hS (fun hS => ?_)
      clear hK K
      refine wpAnyH_take (i := 13) (v := .agg #[.int .i64 6, .slice (some ⟨bb, oo, none⟩) 1 c', .int .i64 0, .string ⟨(signT 6).toArray⟩]) rfl (by kernel_rfl) (by kernel_rfl) (by kernel_rfl) (fun _ _ _ h => h) (Or.inl ⟨by rfl, fun W hW => by have h0 := hW.1; have h2 := hW.2; go_simp⟩) hS ?_
      refine wpAnyH_ready (rs := [4, 14]) (by kernel_rfl) (by simp) ?_
      refine AllReadyH.cons rfl (fun K hK => ?_) (AllReadyH.cons rfl (fun K hK => ?_) AllReadyH.nil)
      · go_simp
        refine hK.out _ _ hS (fun hS => ?_)
        clear hK K
        refine wpAnyH_ready (rs := [14]) (by kernel_rfl) (by simp) ?_
        refine AllReadyH.cons rfl (fun K hK => ?_) AllReadyH.nil
        go_simp
        refine hK.out _ _ ⟨(BN.alloc _).cell 0, (BN.alloc _).cell 2⟩ (fun hS => ?_)
        clear hK K
        refine wpAnyH_ready (rs := [15]) (by kernel_rfl) (by simp) ?_
        refine AllReadyH.cons rfl (fun K hK => ?_) AllReadyH.nil
        refine step_append_lies _ (by rfl) (.tmp 53) (.tmp 63) 95 (by rfl) B 131 i0 _ 4 56 Try.underlying95 hi0 hz0 hz1 hz2 rfl (by decide) _ fs.length cells (by rfl) (by exact (hown.alloc _).alloc _) ⟨w.heap.size + 1, 0, none⟩ 1 1 [.int .i64 6, .slice (some ⟨bb, oo, none⟩) 1 c', .int .i64 0, .string ⟨(signT 6).toArray⟩] (by rfl) rfl (by exact World.news_of_block (by exact heap_alloc_new2 w _ _)) (four_one _ _ _ _ _ _) (by decide) (by unfold maxLen; omega) (by omega) (by simp; omega) _ (by rfl) ?_
        intro g2 cap2 w2 hown2 hgrow hat hlt2
        have hq2 : Blk w2 b 97 #[p, v, ov] := Blk.grown (by exact BB.alloc _) hgrow hne0
        have hq3 : Blk w2 w.heap.size 26 #[.int .i64 6, .slice A n c, .slice (some ⟨bb, oo, none⟩) n' c'] := Blk.grown (by exact BN.alloc _) hgrow hne1
        obtain ⟨_, _, k2, _, _, j2⟩ := blk3 hq2
        refine hK.out _ _ ⟨hq3.cell 0, hq3.cell 2⟩ (fun hS => ?_)
        clear hK K
        refine wpAnyH_take (i := 16) (v := .pointer (some ⟨b, 0, none⟩)) rfl (by kernel_rfl) (by kernel_rfl) (by kernel_rfl) (fun _ _ _ h => h) (Or.inl ⟨by rfl, fun W hW => by have h0 := hW.1; have h2 := hW.2; go_simp⟩) hS ?_
        refine wpAnyH_take (i := 17) (v := .pointer (some ⟨b, 2, none⟩)) rfl (by kernel_rfl) (by kernel_rfl) (by kernel_rfl) (fun _ _ _ h => h) (Or.inl ⟨by rfl, fun W hW => by have h0 := hW.1; have h2 := hW.2; go_simp⟩) hS ?_
        refine wpAnyH_ready (rs := [18]) (by kernel_rfl) (by simp) ?_
        refine AllReadyH.cons rfl (fun K hK => ?_) AllReadyH.nil
        go_simp
        refine hK.out _ _ ⟨(hq3.far (by show w.heap.size ≠ b; omega) _).cell 0, (hq3.far (by show w.heap.size ≠ b; omega) _).cell 2⟩ (fun hS => ?_)
        refine wpAnyH_done (by kernel_rfl) ?_ _
        clear k2 j2
        go_wp2
        go_end0
        refine ⟨rfl, ?_⟩
        exact open_step hp hB hBb hbk hv hown hfs (w1 := (w.alloc (.cells #[.int .i64 6, .slice A n c, .slice (some ⟨bb, oo, none⟩) n' c'] 26)).alloc (.cells #[.int .i64 6, .slice (some ⟨bb, oo, none⟩) 1 c', .int .i64 0, .string ⟨(signT 6).toArray⟩] 131)) (((Below.refl _ w).alloc (Nat.le_refl _) _).alloc (by simp) _) ⟨hgrow.os, hgrow.tape, hgrow.output, hgrow.size, hgrow.block⟩ hown2 HF.out
      · go_simp
        refine hK.out _ _ ⟨(BN.alloc _).cell 0, (BN.alloc _).cell 2⟩ (fun hS => ?_)
        clear hK K
        refine wpAnyH_ready (rs := [4]) (by kernel_rfl) (by simp) ?_
        refine AllReadyH.cons rfl (fun K hK => ?_) AllReadyH.nil
        go_simp
        refine hK.out _ _ hS (fun hS => ?_)
        clear hK K
        refine wpAnyH_ready (rs := [15]) (by kernel_rfl) (by simp) ?_
        refine AllReadyH.cons rfl (fun K hK => ?_) AllReadyH.nil
        refine step_append_lies _ (by rfl) (.tmp 53) (.tmp 63) 95 (by rfl) B 131 i0 _ 4 56 Try.underlying95 hi0 hz0 hz1 hz2 rfl (by decide) _ fs.length cells (by rfl) (by exact (hown.alloc _).alloc _) ⟨w.heap.size + 1, 0, none⟩ 1 1 [.int .i64 6, .slice (some ⟨bb, oo, none⟩) 1 c', .int .i64 0, .string ⟨(signT 6).toArray⟩] (by rfl) rfl (by exact World.news_of_block (by exact heap_alloc_new2 w _ _)) (four_one _ _ _ _ _ _) (by decide) (by unfold maxLen; omega) (by omega) (by simp; omega) _ (by rfl) ?_
        intro g2 cap2 w2 hown2 hgrow hat hlt2
        have hq2 : Blk w2 b 97 #[p, v, ov] := Blk.grown (by exact BB.alloc _) hgrow hne0
        have hq3 : Blk w2 w.heap.size 26 #[.int .i64 6, .slice A n c, .slice (some ⟨bb, oo, none⟩) n' c'] := Blk.grown (by exact BN.alloc _) hgrow hne1
        obtain ⟨_, _, k2, _, _, j2⟩ := blk3 hq2
        refine hK.out _ _ ⟨hq3.cell 0, hq3.cell 2⟩ (fun hS => ?_)
        clear hK K
        refine wpAnyH_take (i := 16) (v := .pointer (some ⟨b, 0, none⟩)) rfl (by kernel_rfl) (by kernel_rfl) (by kernel_rfl) (fun _ _ _ h => h) (Or.inl ⟨by rfl, fun W hW => by have h0 := hW.1; have h2 := hW.2; go_simp⟩) hS ?_
        refine wpAnyH_take (i := 17) (v := .pointer (some ⟨b, 2, none⟩)) rfl (by kernel_rfl) (by kernel_rfl) (by kernel_rfl) (fun _ _ _ h => h) (Or.inl ⟨by rfl, fun W hW => by have h0 := hW.1; have h2 := hW.2; go_simp⟩) hS ?_
        refine wpAnyH_ready (rs := [18]) (by kernel_rfl) (by simp) ?_
        refine AllReadyH.cons rfl (fun K hK => ?_) AllReadyH.nil
        go_simp
        refine hK.out _ _ ⟨(hq3.far (by show w.heap.size ≠ b; omega) _).cell 0, (hq3.far (by show w.heap.size ≠ b; omega) _).cell 2⟩ (fun hS => ?_)
        refine wpAnyH_done (by kernel_rfl) ?_ _
        clear k2 j2
        go_wp2
        go_end0
        refine ⟨rfl, ?_⟩
        exact open_step hp hB hBb hbk hv hown hfs (w1 := (w.alloc (.cells #[.int .i64 6, .slice A n c, .slice (some ⟨bb, oo, none⟩) n' c'] 26)).alloc (.cells #[.int .i64 6, .slice (some ⟨bb, oo, none⟩) 1 c', .int .i64 0, .string ⟨(signT 6).toArray⟩] 131)) (((Below.refl _ w).alloc (Nat.le_refl _) _).alloc (by simp) _) ⟨hgrow.os, hgrow.tape, hgrow.output, hgrow.size, hgrow.block⟩ hown2 HF.out
end Go.Proofs.Ytjnhmcgjeljcmaa
