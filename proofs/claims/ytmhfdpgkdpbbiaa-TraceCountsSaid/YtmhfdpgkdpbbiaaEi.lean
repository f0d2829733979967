/- TraceCounts' walk. -/
import Derived.Test.YtmhfdpgkdpbbiaaEh
import Derived.Deep.DeepCutAuto
import Derived.BigQuiet
namespace Go.Proofs.Ytmhfdpgkdpbbiaa
open Go.RowKit

theorem eq8 (W : World) : (Op.equalIn 10000 31 (.agg #[.int .i64 1, .int .i64 0, .int .i64 1, .int .i64 0, .int .i64 0, .int .i64 0, .int .i64 0, .int .i64 0]) (.agg #[.int .i64 1, .int .i64 0, .int .i64 1, .int .i64 0, .int .i64 0, .int .i64 0, .int .i64 0, .int .i64 0])).run Try.prog W = .ok true W := by kernel_rfl
def sumC (vs : List Int) : Nat → Nat
  | 0 => 0
  | k + 1 => sumC vs k + cntL vs k
theorem sum_all (vs : List Int) : sumC vs 8 = vs.length := by
  rw [← cnt_all vs]
  simp [sumC]
theorem sum_mono (vs : List Int) : ∀ a b, a ≤ b → sumC vs a ≤ sumC vs b
  | a, 0, h => by rw [show a = 0 by omega]; exact Nat.le_refl _
  | a, b + 1, h => by
    rcases Nat.lt_or_ge b a with h1 | h1
    · rw [show a = b + 1 by omega]; exact Nat.le_refl _
    · exact Nat.le_trans (sum_mono vs a b h1) (Nat.le_add_right _ _)
theorem cntC_at (vs : List Int) (k : Nat) (h : k < 8) : (cntC vs)[k]? = some (.int .i64 (cntL vs k : Nat)) := by
  rcases (by omega : k = 0 ∨ k = 1 ∨ k = 2 ∨ k = 3 ∨ k = 4 ∨ k = 5 ∨ k = 6 ∨ k = 7) with rfl | rfl | rfl | rfl | rfl | rfl | rfl | rfl <;> rfl
theorem rss2 (w : World) (cs : Array Value) (fz : Nat × Nat) (s t : ByteArray) (hc : cs = #[.string s, .int .i64 2, .string t, .int .i64 9]) : RssAt (w.alloc (.cells cs 34 fz)) (some ⟨w.heap.size, 0, none⟩) 2 [2, 9] := by
  subst hc
  refine ⟨rfl, by decide, fun _ => ⟨w.heap.size, 0, rfl, by simp, fun i v hv => ?_⟩⟩
  have k := fun o => cell_of_row (w.alloc (.cells #[.string s, .int .i64 2, .string t, .int .i64 9] 34 fz)) w.heap.size o _ 34 fz (heap_alloc_new w _)
  match i, hv with
  | 0, hv =>
    simp at hv; subst hv
    exact ⟨⟨s, by rw [k]; rfl⟩, by rw [k]; rfl⟩
  | 1, hv =>
    simp at hv; subst hv
    exact ⟨⟨t, by rw [k]; rfl⟩, by rw [k]; rfl⟩
theorem RssAt.drewN' {w : World} {A : Option Addr} {n : Nat} {vs : List Int} (h : RssAt w A n vs) (d : Nat) : RssAt (w.drewN d) A n vs := ⟨h.1, h.2.1, h.2.2⟩
theorem quiet_behind {P : Program} {f : FuncId} {args : Array Value} {w : World} {d n : Nat} {v : Value} (h : Calls P f args (w.drewN (d + n)) fun e w' => e = .returned v ∧ w' = w.drewN (d + n)) : Calls P f args (w.drewN (d + n)) fun e w'' => e = .returned v ∧ ∃ m, w'' = w.drewN (d + m) := h.mono fun _ _ ⟨he, hm⟩ => ⟨he, n, hm⟩
theorem cnt29 : cntC [2, 9] = #[.int .i64 1, .int .i64 0, .int .i64 1, .int .i64 0, .int .i64 0, .int .i64 0, .int .i64 0, .int .i64 0] := by rfl
set_option maxHeartbeats 2000000 in
set_option maxRecDepth 100000 in
theorem traceCounts_walk {w : World} {A : Option Addr} {n : Nat} {vs : List Int} (c : Nat) (h : RssAt w A n vs) :
    Calls Try.prog 5 #[.slice A n c] w (BoolPost w true) := by
  have HH := Lib.hid h
  have hn := h.2.1
  have HL := Lib.hid h.1
  clear h
  have C1 := fun W s t => Lib.hid (count_any 2 (rss2 W _ (0, 0) s t rfl))
  rw [show CntPost = fun w vs e w' => e = .returned (.agg (cntC vs)) ∧ Below w.heap.size w w' from rfl] at C1
  simp only [cnt29] at C1
  have HE := fun W => eq8 W
  go_enter Try.func5, Try.ntmps5
  go_wp2_with fail
  refine (C1 _ _ _).out.mono ?_
  rintro e w2 ⟨rfl, b2⟩
  have a0 := (Below.refl w.heap.size w).alloc (Nat.le_refl _) (.cells #[.string ⟨#[]⟩, .int .i64 2, .string ⟨#[]⟩, .int .i64 9] 34)
  have B2 := Lib.hid (a0.trans (b2.mono a0.size))
  have H2 := Lib.hid (HH.out.below (a0.trans (b2.mono a0.size)))
  clear a0 b2 HH C1
  go_wp2_with fail
  refine (count_any c H2.out).mono ?_
  rintro e w3 ⟨rfl, b3⟩
  have B3 := Lib.hid (B2.out.trans (b3.mono B2.out.size))
  have H3 := Lib.hid (H2.out.below b3)
  clear b3 B2 H2
  have hs8 := sum_all vs
  rw [HL.out] at hs8
  have HS := Lib.hid hs8
  have HM := fun k (hk : k ≤ 8) => Lib.hid (sum_mono vs k 8 hk)
  unfold cntC
  have hbk := Blk.new w3 31 #[.int .i64 (cntL vs 0 : Nat), .int .i64 (cntL vs 1 : Nat), .int .i64 (cntL vs 2 : Nat), .int .i64 (cntL vs 3 : Nat), .int .i64 (cntL vs 4 : Nat), .int .i64 (cntL vs 5 : Nat), .int .i64 (cntL vs 6 : Nat), .int .i64 (cntL vs 7 : Nat)]
  have hb4 := (Below.refl w3.heap.size w3).alloc (Nat.le_refl _) (.cells #[.int .i64 (cntL vs 0 : Nat), .int .i64 (cntL vs 1 : Nat), .int .i64 (cntL vs 2 : Nat), .int .i64 (cntL vs 3 : Nat), .int .i64 (cntL vs 4 : Nat), .int .i64 (cntL vs 5 : Nat), .int .i64 (cntL vs 6 : Nat), .int .i64 (cntL vs 7 : Nat)] 31)
  obtain ⟨k0, k1, k2, k3, k4, k5, k6, k7⟩ := blk8 hbk
  have H4 := Lib.hid (H3.out.below hb4)
  have B4 := Lib.hid (B3.out.trans (hb4.mono B3.out.size))
  clear hbk hb4
  go_upto_region 4 with fail
  generalize (w3.alloc (.cells #[.int .i64 (cntL vs 0 : Nat), .int .i64 (cntL vs 1 : Nat), .int .i64 (cntL vs 2 : Nat), .int .i64 (cntL vs 3 : Nat), .int .i64 (cntL vs 4 : Nat), .int .i64 (cntL vs 5 : Nat), .int .i64 (cntL vs 6 : Nat), .int .i64 (cntL vs 7 : Nat)] 31)) = w4 at k0 k1 k2 k3 k4 k5 k6 k7 H4 B4 ⊢
  generalize w3.heap.size = ep at k0 k1 k2 k3 k4 k5 k6 k7 ⊢
  go_wp2_with fail
  go_loopw [4, 5] (fun t i wr => ∃ k : Nat, k ≤ 8 ∧ i = .int .i64 (k : Nat) ∧ t = .int .i64 (sumC vs k : Nat) ∧ ∃ d, wr = w4.drewN d) (fun _ i _ => 8 - (intOf i).toNat)
  case atStart => exact ⟨0, by omega, rfl, rfl, 0, rfl⟩
  case round =>
    obtain ⟨k, hk, rfl, rfl, d, rfl⟩ := hrel
    rcases (by omega : k = 0 ∨ k = 1 ∨ k = 2 ∨ k = 3 ∨ k = 4 ∨ k = 5 ∨ k = 6 ∨ k = 7 ∨ k = 8) with rfl | rfl | rfl | rfl | rfl | rfl | rfl | rfl | rfl
    · have hs1 : Hid (sumC vs 1 = sumC vs 0 + cntL vs 0) := Lib.hid rfl
      have hm : sumC vs 0 + cntL vs 0 ≤ n := by have := (HM 1 (by omega)).out; rw [hs1.out, HS.out] at this; exact this
      have CR := Lib.hid (fun z => rcount_any c 0 (H4.out.drewN' (d + z)))
      generalize sumC vs 0 = sk at hm hs1 ⊢
      go_wp2_with fail
      go_quiet ((go_at_call 15; exact quiet_behind (CR.out _)))
      go_wp2
      go_roundw
      case rel => exact ⟨1, by omega, rfl, by rw [hs1.out]; go_num, _, rfl⟩
      case measure => simp [intOf]
    · have hs1 : Hid (sumC vs 2 = sumC vs 1 + cntL vs 1) := Lib.hid rfl
      have hm : sumC vs 1 + cntL vs 1 ≤ n := by have := (HM 2 (by omega)).out; rw [hs1.out, HS.out] at this; exact this
      have CR := Lib.hid (fun z => rcount_any c 1 (H4.out.drewN' (d + z)))
      generalize sumC vs 1 = sk at hm hs1 ⊢
      go_wp2_with fail
      go_quiet ((go_at_call 15; exact quiet_behind (CR.out _)))
      go_wp2
      go_roundw
      case rel => exact ⟨2, by omega, rfl, by rw [hs1.out]; go_num, _, rfl⟩
      case measure => simp [intOf]
    · have hs1 : Hid (sumC vs 3 = sumC vs 2 + cntL vs 2) := Lib.hid rfl
      have hm : sumC vs 2 + cntL vs 2 ≤ n := by have := (HM 3 (by omega)).out; rw [hs1.out, HS.out] at this; exact this
      have CR := Lib.hid (fun z => rcount_any c 2 (H4.out.drewN' (d + z)))
      generalize sumC vs 2 = sk at hm hs1 ⊢
      go_wp2_with fail
      go_quiet ((go_at_call 15; exact quiet_behind (CR.out _)))
      go_wp2
      go_roundw
      case rel => exact ⟨3, by omega, rfl, by rw [hs1.out]; go_num, _, rfl⟩
      case measure => simp [intOf]
    · have hs1 : Hid (sumC vs 4 = sumC vs 3 + cntL vs 3) := Lib.hid rfl
      have hm : sumC vs 3 + cntL vs 3 ≤ n := by have := (HM 4 (by omega)).out; rw [hs1.out, HS.out] at this; exact this
      have CR := Lib.hid (fun z => rcount_any c 3 (H4.out.drewN' (d + z)))
      generalize sumC vs 3 = sk at hm hs1 ⊢
      go_wp2_with fail
      go_quiet ((go_at_call 15; exact quiet_behind (CR.out _)))
      go_wp2
      go_roundw
      case rel => exact ⟨4, by omega, rfl, by rw [hs1.out]; go_num, _, rfl⟩
      case measure => simp [intOf]
    · have hs1 : Hid (sumC vs 5 = sumC vs 4 + cntL vs 4) := Lib.hid rfl
      have hm : sumC vs 4 + cntL vs 4 ≤ n := by have := (HM 5 (by omega)).out; rw [hs1.out, HS.out] at this; exact this
      have CR := Lib.hid (fun z => rcount_any c 4 (H4.out.drewN' (d + z)))
      generalize sumC vs 4 = sk at hm hs1 ⊢
      go_wp2_with fail
      go_quiet ((go_at_call 15; exact quiet_behind (CR.out _)))
      go_wp2
      go_roundw
      case rel => exact ⟨5, by omega, rfl, by rw [hs1.out]; go_num, _, rfl⟩
      case measure => simp [intOf]
    · have hs1 : Hid (sumC vs 6 = sumC vs 5 + cntL vs 5) := Lib.hid rfl
      have hm : sumC vs 5 + cntL vs 5 ≤ n := by have := (HM 6 (by omega)).out; rw [hs1.out, HS.out] at this; exact this
      have CR := Lib.hid (fun z => rcount_any c 5 (H4.out.drewN' (d + z)))
      generalize sumC vs 5 = sk at hm hs1 ⊢
      go_wp2_with fail
      go_quiet ((go_at_call 15; exact quiet_behind (CR.out _)))
      go_wp2
      go_roundw
      case rel => exact ⟨6, by omega, rfl, by rw [hs1.out]; go_num, _, rfl⟩
      case measure => simp [intOf]
    · have hs1 : Hid (sumC vs 7 = sumC vs 6 + cntL vs 6) := Lib.hid rfl
      have hm : sumC vs 6 + cntL vs 6 ≤ n := by have := (HM 7 (by omega)).out; rw [hs1.out, HS.out] at this; exact this
      have CR := Lib.hid (fun z => rcount_any c 6 (H4.out.drewN' (d + z)))
      generalize sumC vs 6 = sk at hm hs1 ⊢
      go_wp2_with fail
      go_quiet ((go_at_call 15; exact quiet_behind (CR.out _)))
      go_wp2
      go_roundw
      case rel => exact ⟨7, by omega, rfl, by rw [hs1.out]; go_num, _, rfl⟩
      case measure => simp [intOf]
    · have hs1 : Hid (sumC vs 8 = sumC vs 7 + cntL vs 7) := Lib.hid rfl
      have hm : sumC vs 7 + cntL vs 7 ≤ n := by have := HS.out; rw [hs1.out] at this; omega
      have CR := Lib.hid (fun z => rcount_any c 7 (H4.out.drewN' (d + z)))
      generalize sumC vs 7 = sk at hm hs1 ⊢
      go_wp2_with fail
      go_quiet ((go_at_call 15; exact quiet_behind (CR.out _)))
      go_wp2
      go_roundw
      case rel => exact ⟨8, by omega, rfl, by rw [hs1.out]; go_num, _, rfl⟩
      case measure => simp [intOf]
    · rw [HS.out]
      go_wp2
      go_ret
      exact ⟨rfl, ⟨B4.out.os, B4.out.tape, B4.out.output, B4.out.size, B4.out.block⟩⟩
end Go.Proofs.Ytmhfdpgkdpbbiaa
