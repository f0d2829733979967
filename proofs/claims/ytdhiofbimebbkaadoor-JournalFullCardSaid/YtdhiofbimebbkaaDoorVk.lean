/- shorten; Cut. -/
import Derived.Test.YtdhiofbimebbkaaDoorVf
namespace Go.Proofs.YtdhiofbimebbkaaDoor
open Go.RowKit Go.Maps

def cutV (v : Value) (n : Nat) : Value := match v with | .slice A _ c => .slice A n c | v => v
def cutF (f : Fl) (n : Nat) : Fl := ⟨f.name, f.bytes.take n, min f.safe n, f.fb, cutV f.v n⟩
section
variable {w : World} {dp bm free fuse : Nat} {M : List Fl} {down : Bool}
theorem cutV_block (v : Value) (n : Nat) : (cutV v n).ownBlock = v.ownBlock := by
  unfold cutV
  split
  · rename_i A _ c
    cases A <;> rfl
  · rfl
theorem row_cut {v : Value} {xs : List UInt8} (h : w.ownsRow 0 5 1 v xs.length (xs.map u8V)) {n : Nat} (hn : n ≤ xs.length) : w.ownsRow 0 5 1 (cutV v n) (xs.take n).length ((xs.take n).map u8V) := by
  have hl : (xs.take n).length = n := by rw [List.length_take]; omega
  refine ⟨by simp, ?_⟩
  rw [hl]
  rcases h.2 with ⟨rfl, h0⟩ | ⟨g, cap, cur, rfl, h1, h2, h3, h4, h5, h6⟩
  · obtain rfl : n = 0 := by omega
    exact .inl ⟨rfl, rfl⟩
  · refine .inr ⟨g, cap, cur, rfl, h1, h2, by omega, h4, h5, ?_⟩
    rw [List.map_take, ← h6, List.take_take]
    congr 1
    omega
set_option maxHeartbeats 2000000 in
set_option maxRecDepth 100000 in
theorem shorten_any (h : FsAt w dp bm M free fuse down) {f : Fl} (hf : f ∈ M) (n : Nat) (hn : n ≤ f.bytes.length) (hfr : free + f.bytes.length ≤ 9223372036854775807) :
    Calls Tryd.prog 29 #[.pointer (some ⟨dp, 0, none⟩), .pointer (some ⟨f.fb, 0, none⟩), .int .i64 (n : Nat)] w fun e w' => e = .returned (.tuple #[]) ∧ FsAt w' dp bm (updF (cutF f n) M) (free + (f.bytes.length - n)) fuse down ∧ Kept (Own dp bm M) w w' := by
  have mixed : Tryd.prog.follows .mixedOrders = true := by kernel_rfl
  have hFA := h.files f hf
  obtain ⟨A, c, hv, hnc, hcm⟩ := row_shape hFA.2.1
  have hB := hFA.1
  rw [hv] at hB
  have b0 : w.cell? ⟨f.fb, 0, none⟩ = some (.slice A f.bytes.length c) := hB.cell 0
  have hne : f.fb ≠ dp := (h.ap.2.1 f hf).1
  have T1 : w.cell? ⟨dp, 1, none⟩ = some (.int .i64 (free : Nat)) := h.top.cell 1
  have e1 : w.frozen? ⟨dp, 1, none⟩ = false := h.top.frozen 1
  have hcast : ((free + (f.bytes.length - n) : Nat) : Int) = (free : Int) + ((f.bytes.length : Int) - (n : Int)) := by omega
  have hw1 : IntKind.i64.wrap ((f.bytes.length : Int) - (n : Int)) = (f.bytes.length : Int) - (n : Int) := IntWalk.i64_in _ (by unfold maxLen at hcm; omega)
  have hw2 : IntKind.i64.wrap ((free : Int) + ((f.bytes.length : Int) - (n : Int))) = (free : Int) + ((f.bytes.length : Int) - (n : Int)) := IntWalk.i64_in _ (by omega)
  obtain ⟨w1, hw1d⟩ : ∃ w1, w1 = (w.setCell ⟨dp, 1, none⟩ (.int .i64 ((free : Int) + ((f.bytes.length : Int) - (n : Int))))).drew := ⟨_, rfl⟩
  have hF1 : FsAt w1 dp bm M (free + (f.bytes.length - n)) fuse down := by
    rw [hw1d, ← hcast]; exact (h.set1 _).drew
  have hK1 : Kept (Own dp bm M) w w1 := by
    rw [hw1d]; exact ((Kept.refl _ w).set_ (p := ⟨dp, 1, none⟩) (.inl (.inl rfl)) _).drew
  have hB1 := (hF1.files f hf).1
  rw [hv] at hB1
  have r0 : w1.cell? ⟨f.fb, 0, none⟩ = some (.slice A f.bytes.length c) := hB1.cell 0
  have r1 : w1.cell? ⟨f.fb, 1, none⟩ = some (.int .i64 (f.safe : Nat)) := hB1.cell 1
  have z0 : w1.frozen? ⟨f.fb, 0, none⟩ = false := hB1.frozen 0
  have z1 : w1.frozen? ⟨f.fb, 1, none⟩ = false := hB1.frozen 1
  have HF := Lib.hid (show FsAt ((w1.setCell ⟨f.fb, 0, none⟩ (.slice A n c)).setCell ⟨f.fb, 1, none⟩ (.int .i64 ((min f.safe n : Nat) : Int))) dp bm (updF (cutF f n) M) (free + (f.bytes.length - n)) fuse down by
    refine hF1.turn hf rfl rfl ⟨?_, ?_, ?_⟩ (fun j _ hj _ => (Below.heap_setCell _ _ _ _ hj).trans (Below.heap_setCell _ _ _ _ hj)) (fun r hr => .inl ?_)
    · have : (cutF f n).v = .slice A n c := by unfold cutF cutV; rw [hv]
      rw [this]
      exact (hB1.set_ 0 _).set_ 1 _
    · have h1 := row_cut (hF1.files f hf).2.1 hn
      refine (h1.kept (gb_set (g := f.fb) (gb_refl w1 _) (p := ⟨f.fb, 0, none⟩) (.inl rfl) (.slice A n c)) (.inr ?_)).kept (gb_set (g := f.fb) (gb_refl _ _) (p := ⟨f.fb, 1, none⟩) (.inl rfl) _) (.inr ?_)
      · rw [cutV_block]; exact h.ap.2.2 f hf f hf
      · rw [cutV_block]; exact h.ap.2.2 f hf f hf
    · show min f.safe n ≤ (f.bytes.take n).length
      rw [List.length_take]
      omega
    · rw [show (cutF f n).v = cutV f.v n from rfl, cutV_block] at hr; exact hr)
  have HK := Lib.hid (show Kept (Own dp bm M) w ((w1.setCell ⟨f.fb, 0, none⟩ (.slice A n c)).setCell ⟨f.fb, 1, none⟩ (.int .i64 ((min f.safe n : Nat) : Int))) from (hK1.set_ (p := ⟨f.fb, 0, none⟩) (.inl (.inr (.inr ⟨f, hf, .inl rfl⟩))) _).set_ (p := ⟨f.fb, 1, none⟩) (.inl (.inr (.inr ⟨f, hf, .inl rfl⟩))) _)
  have hn0 : (0 : Int) ≤ (n : Int) := by omega
  have hnl : (n : Int) ≤ (f.bytes.length : Int) := by omega
  have hncap : n ≤ c := by omega
  have hncapI : (n : Int) ≤ (c : Int) := by omega
  clear hF1 hK1 hFA hB hB1 hcast
  by_cases hsn : ¬ n < f.safe
  · have HM := Lib.hid (show ((min f.safe n : Nat) : Int) = (f.safe : Int) by omega)
    rw [HM.out] at HF HK
    have hsn' : ¬ (n : Int) < (f.safe : Int) := by omega
    go_enter Tryd.func29, Tryd.ntmps29
    go_wp2_with fail
    refine wp_region_held_drew (S := fun W => W.cell? ⟨f.fb, 0, none⟩ = some (.slice A f.bytes.length c)) mixed b0 (fun hS => ?_)
    refine wpAnyH_take (i := 0) (v := .pointer (some ⟨dp, 0, none⟩)) rfl (by kernel_rfl) (by kernel_rfl) (by kernel_rfl) (fun _ _ _ h => h) (Or.inl ⟨by rfl, fun W hW => by have h0 := hW; go_simp⟩) hS ?_
    refine wpAnyH_take (i := 1) (v := .pointer (some ⟨dp, 0, none⟩)) rfl (by kernel_rfl) (by kernel_rfl) (by kernel_rfl) (fun _ _ _ h => h) (Or.inl ⟨by rfl, fun W hW => by have h0 := hW; go_simp⟩) hS ?_
    refine wpAnyH_take (i := 2) (v := .pointer (some ⟨dp, 1, none⟩)) rfl (by kernel_rfl) (by kernel_rfl) (by kernel_rfl) (fun _ _ _ h => h) (Or.inl ⟨by rfl, fun W hW => by have h0 := hW; go_simp⟩) hS ?_
    refine wpAnyH_take (i := 4) (v := .pointer (some ⟨f.fb, 0, none⟩)) rfl (by kernel_rfl) (by kernel_rfl) (by kernel_rfl) (fun _ _ _ h => h) (Or.inl ⟨by rfl, fun W hW => by have h0 := hW; go_simp⟩) hS ?_
    refine wpAnyH_take (i := 5) (v := .pointer (some ⟨f.fb, 0, none⟩)) rfl (by kernel_rfl) (by kernel_rfl) (by kernel_rfl) (fun _ _ _ h => h) (Or.inl ⟨by rfl, fun W hW => by have h0 := hW; go_simp⟩) hS ?_
    refine wpAnyH_take (i := 6) (v := .pointer (some ⟨f.fb, 0, none⟩)) rfl (by kernel_rfl) (by kernel_rfl) (by kernel_rfl) (fun _ _ _ h => h) (Or.inl ⟨by rfl, fun W hW => by have h0 := hW; go_simp⟩) hS ?_
    refine wpAnyH_take (i := 7) (v := .slice A f.bytes.length c) rfl (by kernel_rfl) (by kernel_rfl) (by kernel_rfl) (fun _ _ _ h => h) (Or.inl ⟨by rfl, fun W hW => by have h0 := hW; go_simp⟩) hS ?_
    refine wpAnyH_take (i := 8) (v := .int .i64 (f.bytes.length : Nat)) rfl (by kernel_rfl) (by kernel_rfl) (by kernel_rfl) (fun _ _ _ h => h) (Or.inl ⟨by rfl, fun W hW => by have h0 := hW; go_simp⟩) hS ?_
    refine wpAnyH_take (i := 9) (v := .int .i64 (n : Nat)) rfl (by kernel_rfl) (by kernel_rfl) (by kernel_rfl) (fun _ _ _ h => h) (Or.inl ⟨by rfl, fun W hW => by have h0 := hW; go_simp⟩) hS ?_
    refine wpAnyH_take (i := 10) (v := .int .i64 ((f.bytes.length : Int) - (n : Int))) rfl (by kernel_rfl) (by kernel_rfl) (by kernel_rfl) (fun _ _ _ h => h) (Or.inl ⟨by rfl, fun W hW => by have h0 := hW; go_simp⟩) hS ?_
    refine wpAnyH_ready (rs := [3]) (by kernel_rfl) (by simp) ?_
    refine AllReadyH.cons rfl (fun K hK => ?_) AllReadyH.nil
    go_simp
    refine hK.out _ _ hS (fun hS => ?_)
    clear hK K
    refine wpAnyH_ready (rs := [11]) (by kernel_rfl) (by simp) ?_
    refine AllReadyH.cons rfl (fun K hK => ?_) AllReadyH.nil
    go_simp
    refine hK.out _ _ hS (fun hS => ?_)
    clear hK K
    refine wpAnyH_take (i := 12) (v := .pointer (some ⟨dp, 0, none⟩)) rfl (by kernel_rfl) (by kernel_rfl) (by kernel_rfl) (fun _ _ _ h => h) (Or.inl ⟨by rfl, fun W hW => by have h0 := hW; go_simp⟩) hS ?_
    refine wpAnyH_take (i := 13) (v := .pointer (some ⟨dp, 1, none⟩)) rfl (by kernel_rfl) (by kernel_rfl) (by kernel_rfl) (fun _ _ _ h => h) (Or.inl ⟨by rfl, fun W hW => by have h0 := hW; go_simp⟩) hS ?_
    refine wpAnyH_ready (rs := [14]) (by kernel_rfl) (by simp) ?_
    refine AllReadyH.cons rfl (fun K hK => ?_) AllReadyH.nil
    go_simp
    refine hK.out _ _ ((World.cell?_of_block (a := ⟨f.fb, 0, none⟩) (Below.heap_setCell w.drew ⟨dp, 1, none⟩ _ f.fb hne)).trans b0) (fun hS => ?_)
    clear hK K
    refine wpAnyH_done (by kernel_rfl) ?_ _
    rw [← hw1d]
    clear hw1d hS b0 T1 e1
    go_wp2
    go_end0
    exact ⟨rfl, HF.out, HK.out⟩
  · have HM := Lib.hid (show ((min f.safe n : Nat) : Int) = (n : Int) by omega)
    rw [HM.out] at HF HK
    have hsn2 : (n : Int) < (f.safe : Int) := by omega
    have hsn3 : n < f.safe := by omega
    clear hsn
    go_enter Tryd.func29, Tryd.ntmps29
    go_wp2_with fail
    refine wp_region_held_drew (S := fun W => W.cell? ⟨f.fb, 0, none⟩ = some (.slice A f.bytes.length c)) mixed b0 (fun hS => ?_)
    refine wpAnyH_take (i := 0) (v := .pointer (some ⟨dp, 0, none⟩)) rfl (by kernel_rfl) (by kernel_rfl) (by kernel_rfl) (fun _ _ _ h => h) (Or.inl ⟨by rfl, fun W hW => by have h0 := hW; go_simp⟩) hS ?_
    refine wpAnyH_take (i := 1) (v := .pointer (some ⟨dp, 0, none⟩)) rfl (by kernel_rfl) (by kernel_rfl) (by kernel_rfl) (fun _ _ _ h => h) (Or.inl ⟨by rfl, fun W hW => by have h0 := hW; go_simp⟩) hS ?_
    refine wpAnyH_take (i := 2) (v := .pointer (some ⟨dp, 1, none⟩)) rfl (by kernel_rfl) (by kernel_rfl) (by kernel_rfl) (fun _ _ _ h => h) (Or.inl ⟨by rfl, fun W hW => by have h0 := hW; go_simp⟩) hS ?_
    refine wpAnyH_take (i := 4) (v := .pointer (some ⟨f.fb, 0, none⟩)) rfl (by kernel_rfl) (by kernel_rfl) (by kernel_rfl) (fun _ _ _ h => h) (Or.inl ⟨by rfl, fun W hW => by have h0 := hW; go_simp⟩) hS ?_
    refine wpAnyH_take (i := 5) (v := .pointer (some ⟨f.fb, 0, none⟩)) rfl (by kernel_rfl) (by kernel_rfl) (by kernel_rfl) (fun _ _ _ h => h) (Or.inl ⟨by rfl, fun W hW => by have h0 := hW; go_simp⟩) hS ?_
    refine wpAnyH_take (i := 6) (v := .pointer (some ⟨f.fb, 0, none⟩)) rfl (by kernel_rfl) (by kernel_rfl) (by kernel_rfl) (fun _ _ _ h => h) (Or.inl ⟨by rfl, fun W hW => by have h0 := hW; go_simp⟩) hS ?_
    refine wpAnyH_take (i := 7) (v := .slice A f.bytes.length c) rfl (by kernel_rfl) (by kernel_rfl) (by kernel_rfl) (fun _ _ _ h => h) (Or.inl ⟨by rfl, fun W hW => by have h0 := hW; go_simp⟩) hS ?_
    refine wpAnyH_take (i := 8) (v := .int .i64 (f.bytes.length : Nat)) rfl (by kernel_rfl) (by kernel_rfl) (by kernel_rfl) (fun _ _ _ h => h) (Or.inl ⟨by rfl, fun W hW => by have h0 := hW; go_simp⟩) hS ?_
    refine wpAnyH_take (i := 9) (v := .int .i64 (n : Nat)) rfl (by kernel_rfl) (by kernel_rfl) (by kernel_rfl) (fun _ _ _ h => h) (Or.inl ⟨by rfl, fun W hW => by have h0 := hW; go_simp⟩) hS ?_
    refine wpAnyH_take (i := 10) (v := .int .i64 ((f.bytes.length : Int) - (n : Int))) rfl (by kernel_rfl) (by kernel_rfl) (by kernel_rfl) (fun _ _ _ h => h) (Or.inl ⟨by rfl, fun W hW => by have h0 := hW; go_simp⟩) hS ?_
    refine wpAnyH_ready (rs := [3]) (by kernel_rfl) (by simp) ?_
    refine AllReadyH.cons rfl (fun K hK => ?_) AllReadyH.nil
    go_simp
    refine hK.out _ _ hS (fun hS => ?_)
    clear hK K
    refine wpAnyH_ready (rs := [11]) (by kernel_rfl) (by simp) ?_
    refine AllReadyH.cons rfl (fun K hK => ?_) AllReadyH.nil
    go_simp
    refine hK.out _ _ hS (fun hS => ?_)
    clear hK K
    refine wpAnyH_take (i := 12) (v := .pointer (some ⟨dp, 0, none⟩)) rfl (by kernel_rfl) (by kernel_rfl) (by kernel_rfl) (fun _ _ _ h => h) (Or.inl ⟨by rfl, fun W hW => by have h0 := hW; go_simp⟩) hS ?_
    refine wpAnyH_take (i := 13) (v := .pointer (some ⟨dp, 1, none⟩)) rfl (by kernel_rfl) (by kernel_rfl) (by kernel_rfl) (fun _ _ _ h => h) (Or.inl ⟨by rfl, fun W hW => by have h0 := hW; go_simp⟩) hS ?_
    refine wpAnyH_ready (rs := [14]) (by kernel_rfl) (by simp) ?_
    refine AllReadyH.cons rfl (fun K hK => ?_) AllReadyH.nil
    go_simp
    refine hK.out _ _ ((World.cell?_of_block (a := ⟨f.fb, 0, none⟩) (Below.heap_setCell w.drew ⟨dp, 1, none⟩ _ f.fb hne)).trans b0) (fun hS => ?_)
    clear hK K
    refine wpAnyH_done (by kernel_rfl) ?_ _
    rw [← hw1d]
    clear hw1d hS b0 T1 e1
    go_wp2
    go_end0
    exact ⟨rfl, HF.out, HK.out⟩
def cutS (nm : List UInt8) (n : Int) (s : Sta) : Int × Sta := onFile nm s fun t => if n < 0 ∨ (t.2.1.length : Int) < n then (1, s) else stepS s fun s => { s with V := vset (t.1, t.2.1.take n.toNat, min t.2.2 n.toNat) s.V, free := s.free + (t.2.1.length - n.toNat) }
set_option maxRecDepth 100000 in
theorem cut1_any (h : FsAt w dp bm M free fuse down) (p0 p1 p2 : Nat) {f : Fl} (hf : f ∈ M) (n : Nat) (hn : n ≤ f.bytes.length) (hfr : free + f.bytes.length ≤ 9223372036854775807) (c0 : w.cell? ⟨p0, 0, none⟩ = some (.pointer (some ⟨dp, 0, none⟩))) (c1 : w.cell? ⟨p1, 0, none⟩ = some (.pointer (some ⟨f.fb, 0, none⟩))) (c2 : w.cell? ⟨p2, 0, none⟩ = some (.int .i64 (n : Nat))) :
    Calls Tryd.prog 43 #[.pointer (some ⟨p0, 0, none⟩), .pointer (some ⟨p1, 0, none⟩), .pointer (some ⟨p2, 0, none⟩)] w fun e w' => e = .returned (.tuple #[]) ∧ FsAt w' dp bm (updF (cutF f n) M) (free + (f.bytes.length - n)) fuse down ∧ Kept (Own dp bm M) w w' := by
  have HD := Lib.hid (shorten_any h hf n hn hfr)
  go_enter Tryd.func43, Tryd.ntmps43
  go_wp2_with fail
  refine HD.out.mono ?_
  rintro e w' ⟨rfl, hF, hK⟩
  go_wp2
  go_end0
  exact ⟨rfl, hF, hK⟩
theorem own_cut {f : Fl} (hf : f ∈ M) {n j : Nat} (h : Own dp bm (updF (cutF f n) M) j) : Own dp bm M j := by
  rcases h with h | h | ⟨g, hg, h⟩
  · exact .inl h
  · exact .inr (.inl h)
  · rcases mem_upd hg with rfl | ⟨hg, _⟩
    · refine .inr (.inr ⟨f, hf, ?_⟩)
      rcases h with h | h
      · exact .inl h
      · exact .inr (by rw [show (cutF f n).v = cutV f.v n from rfl, cutV_block] at h; exact h)
    · exact .inr (.inr ⟨g, hg, h⟩)
set_option maxHeartbeats 1000000 in
set_option maxRecDepth 100000 in
theorem cut_any (h : FsAt w dp bm M free fuse down) (s : ByteArray) (hs : s.size ≤ maxLen) (n : Int) (hfr : ∀ f ∈ M, free + f.bytes.length ≤ 9223372036854775807) (hfu : fuse ≤ 9223372036854775807) :
    Calls Tryd.prog 23 #[.pointer (some ⟨dp, 0, none⟩), .string s, .int .i64 n] w (Res w dp (Own dp bm M) (cutS s.data.toList n ⟨M.map vw, free, fuse, down⟩)) := by
  have h0 := (h.alloc (.cells #[.pointer (some ⟨dp, 0, none⟩)] 23)).alloc (.cells #[.int .i64 n] 3)
  have k0 : Kept (Own dp bm M) w ((w.alloc (.cells #[.pointer (some ⟨dp, 0, none⟩)] 23)).alloc (.cells #[.int .i64 n] 3)) := ((Kept.refl _ w).alloc _).alloc _
  rcases file_cases h s hs with ⟨f, hlk, hd, hf, hnm, hon, hc⟩ | ⟨cd, hc0, hon, hc⟩
  · have hmf : ∀ (fn : Fn) (first cap : Array Value) (w : World), (Instr.makeFunc fn first cap).run Tryd.prog w = .ok (.func fn first cap) w := fun _ _ _ _ => rfl
    have h1 := h0.alloc (.cells #[.pointer (some ⟨f.fb, 0, none⟩)] 62)
    have k1 := k0.alloc (.cells #[.pointer (some ⟨f.fb, 0, none⟩)] 62)
    have HC := Lib.hid (hc _ h0)
    obtain ⟨A, c, hv, hnc, hcm⟩ := row_shape (h.files f hf).2.1
    have hB := (h.files f hf).1
    rw [hv] at hB
    have F0 : w.cell? ⟨f.fb, 0, none⟩ = some (.slice A f.bytes.length c) := hB.cell 0
    have l0 := h.top.lt
    have m0 := hB.lt
    have m1 : f.fb < w.heap.size + 1 := by omega
    have m2 : f.fb < w.heap.size + 1 + 1 := by omega
    have hfl := hfr f hf
    clear hB hv
    by_cases hbad : n < 0 ∨ (f.bytes.length : Int) < n
    · have HR := Lib.hid (show cutS s.data.toList n ⟨M.map vw, free, fuse, down⟩ = (1, ⟨M.map vw, free, fuse, down⟩) by
        unfold cutS; rw [hon]; exact if_pos hbad)
      clear hlk hd hnm hon hc hfr
      by_cases hn0 : n < 0
      · clear hbad
        go_enter Tryd.func23, Tryd.ntmps23
        go_wp2_with fail
        refine HC.out.mono ?_
        rintro e w' ⟨rfl, rfl⟩
        go_wp2
        go_quiet (fail)
        go_wp2
        go_ret
        rw [HR.out]
        exact ⟨rfl, _, ⟨bm, M, h1.drewN _, rfl, rfl⟩, fun j hj => .inl hj, k1.drewN _⟩
      · have hn1 : (f.bytes.length : Int) < n := by omega
        have hn2 : 0 ≤ n := by omega
        clear hbad
        go_enter Tryd.func23, Tryd.ntmps23
        go_wp2_with fail
        refine HC.out.mono ?_
        rintro e w' ⟨rfl, rfl⟩
        go_wp2
        go_quiet (fail)
        go_wp2
        go_ret
        rw [HR.out]
        exact ⟨rfl, _, ⟨bm, M, h1.drewN _, rfl, rfl⟩, fun j hj => .inl hj, k1.drewN _⟩
    · obtain ⟨k, rfl⟩ : ∃ k : Nat, n = (k : Nat) := ⟨n.toNat, by omega⟩
      have hkn : k ≤ f.bytes.length := by omega
      have HR := Lib.hid (show cutS s.data.toList (k : Nat) ⟨M.map vw, free, fuse, down⟩ = stepS ⟨M.map vw, free, fuse, down⟩ fun s1 => { s1 with V := vset (f.name, f.bytes.take k, min f.safe k) s1.V, free := s1.free + (f.bytes.length - k) } by
        unfold cutS; rw [hon]; exact if_neg hbad)
      have hn1 : ¬ (f.bytes.length : Int) < (k : Int) := by omega
      have hn3 : ¬ f.bytes.length < k := by omega
      have hn2 : ¬ ((k : Nat) : Int) < 0 := by omega
      have B0 : Blk (((w.alloc (.cells #[.pointer (some ⟨dp, 0, none⟩)] 23)).alloc (.cells #[.int .i64 (k : Nat)] 3)).alloc (.cells #[.pointer (some ⟨f.fb, 0, none⟩)] 62)) w.heap.size 23 #[.pointer (some ⟨dp, 0, none⟩)] := ((Blk.new w _ _).alloc _).alloc _
      have B1 : Blk (((w.alloc (.cells #[.pointer (some ⟨dp, 0, none⟩)] 23)).alloc (.cells #[.int .i64 (k : Nat)] 3)).alloc (.cells #[.pointer (some ⟨f.fb, 0, none⟩)] 62)) (w.heap.size + 1) 3 #[.int .i64 (k : Nat)] := by simpa using (Blk.new (w.alloc (.cells #[.pointer (some ⟨dp, 0, none⟩)] 23)) 3 #[.int .i64 (k : Nat)]).alloc (.cells #[.pointer (some ⟨f.fb, 0, none⟩)] 62)
      have B2 : Blk (((w.alloc (.cells #[.pointer (some ⟨dp, 0, none⟩)] 23)).alloc (.cells #[.int .i64 (k : Nat)] 3)).alloc (.cells #[.pointer (some ⟨f.fb, 0, none⟩)] 62)) (w.heap.size + 1 + 1) 62 #[.pointer (some ⟨f.fb, 0, none⟩)] := by simpa using Blk.new ((w.alloc (.cells #[.pointer (some ⟨dp, 0, none⟩)] 23)).alloc (.cells #[.int .i64 (k : Nat)] 3)) 62 #[.pointer (some ⟨f.fb, 0, none⟩)]
      clear hlk hd hnm hon hc hbad hfr
      by_cases hf1 : fuse = 1
      · subst hf1
        go_enter Tryd.func23, Tryd.ntmps23
        go_wp2_with fail
        refine HC.out.mono ?_
        rintro e w' ⟨rfl, rfl⟩
        go_wp2
        go_quiet (fail)
        go_wp2_with fail
        refine (step_off (h1.drewN _) _).mono ?_
        rintro e w' ⟨rfl, hF, hK⟩
        go_wp2
        go_ret
        rw [HR.out]
        exact Res.off rfl ⟨_, ⟨bm, M, hF, rfl, rfl⟩, fun j hj => .inl hj, (k1.drewN _).trans hK (fun j hj => .inl hj)⟩
      · have HF := Lib.hid hf1
        clear hf1
        go_enter Tryd.func23, Tryd.ntmps23
        go_wp2_with fail
        refine HC.out.mono ?_
        rintro e w' ⟨rfl, rfl⟩
        go_wp2
        go_quiet (fail)
        go_wp2_with fail
        refine (step_on (h1.drewN _) HF.out hfu 43 _ (fun args W => by kernel_rfl) _ (cut1_any ((h1.drewN _).set2 _) w.heap.size (w.heap.size + 1 + 1) (w.heap.size + 1) hf k hkn hfl ?_ ?_ ?_)).mono ?_
        · exact ((B0.drewN _).far (p := ⟨dp, 2, none⟩) (by show w.heap.size ≠ dp; omega) _).cell 0
        · exact ((B2.drewN _).far (p := ⟨dp, 2, none⟩) (by show w.heap.size + 1 + 1 ≠ dp; omega) _).cell 0
        · exact ((B1.drewN _).far (p := ⟨dp, 2, none⟩) (by show w.heap.size + 1 ≠ dp; omega) _).cell 0
        rintro e w' ⟨rfl, hF, hK⟩
        go_wp2
        go_ret
        rw [HR.out]
        exact Res.step HF.out ⟨_, ⟨bm, _, hF, map_upd _ _, rfl⟩, fun j hj => .inl (own_cut hf hj), ((k1.drewN _).set_ (p := ⟨dp, 2, none⟩) (.inl (.inl rfl)) _).trans hK (fun j hj => .inl hj)⟩
  · have HR := Lib.hid (show cutS s.data.toList n ⟨M.map vw, free, fuse, down⟩ = (cd, ⟨M.map vw, free, fuse, down⟩) from hon _)
    have HC := Lib.hid (hc _ h0)
    have hcb : (cd != 0) = true := by simpa using hc0
    clear hon hc hc0
    go_enter Tryd.func23, Tryd.ntmps23
    go_wp2_with fail
    refine HC.out.mono ?_
    rintro e w' ⟨rfl, rfl⟩
    go_wp2
    go_ret
    rw [HR.out]
    exact ⟨rfl, _, ⟨bm, M, h0.alloc _, rfl, rfl⟩, fun j hj => .inl hj, k0.alloc _⟩
end
end Go.Proofs.YtdhiofbimebbkaaDoor
