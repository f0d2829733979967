/- CondHolds' walk. -/
import Derived.Test.YtfgblmdmhgllgaaCx
import Derived.Test.YtfgblmdmhgllgaaDa
namespace Go.Proofs.Ytfgblmdmhgllgaa
open Go.RowKit Go.Maps

set_option maxHeartbeats 4000000 in
set_option maxRecDepth 100000 in
theorem condHolds_walk (D : Nat) (t : CT) (k : Int) (n v : ByteArray) (A : Option Addr) (m c : Nat) (nm : ByteArray) (PA : Option Addr) (pm pc : Nat) (ps : Props) (w : World) (ht : CondAt w (· < w.heap.size) D t [.int .i64 k, .string n, .string v, .slice A m c]) (hp : PropsAt w (· < w.heap.size) PA pm ps) (hpm : pm ≤ maxLen) :
    Calls Try.prog 6 #[.agg #[.int .i64 k, .string n, .string v, .slice A m c], .agg #[.string nm, .slice PA pm pc]] w fun e w' => e = .returned (.bool true) ∧ Below w.heap.size w w' := by
  have hbw := ((Below.refl _ w).alloc (Nat.le_refl _) (.cells #[.int .i64 k, .string n, .string v, .slice A m c] 76)).alloc (by simp) (.cells #[.string nm, .slice PA pm pc] 79)
  have HP := Lib.hid (show Blk ((w.alloc (.cells #[.int .i64 k, .string n, .string v, .slice A m c] 76)).alloc (.cells #[.string nm, .slice PA pm pc] 79)) w.heap.size 76 #[.int .i64 k, .string n, .string v, .slice A m c] from (Blk.new w _ _).alloc _)
  have HQ := Lib.hid (show Blk ((w.alloc (.cells #[.int .i64 k, .string n, .string v, .slice A m c] 76)).alloc (.cells #[.string nm, .slice PA pm pc] 79)) (w.heap.size + 1) 79 #[.string nm, .slice PA pm pc] by simpa using Blk.new (w.alloc (.cells #[.int .i64 k, .string n, .string v, .slice A m c] 76)) 79 _)
  have HT := Lib.hid (ht.below hbw)
  have HPS := Lib.hid (hp.below hbw)
  have hbW := hbw
  have hB0 := Below.refl ((w.alloc (.cells #[.int .i64 k, .string n, .string v, .slice A m c] 76)).alloc (.cells #[.string nm, .slice PA pm pc] 79)).heap.size ((w.alloc (.cells #[.int .i64 k, .string n, .string v, .slice A m c] 76)).alloc (.cells #[.string nm, .slice PA pm pc] 79))
  have H20 := Lib.hid (fun W (hb : Below ((w.alloc (.cells #[.int .i64 k, .string n, .string v, .slice A m c] 76)).alloc (.cells #[.string nm, .slice PA pm pc] 79)).heap.size ((w.alloc (.cells #[.int .i64 k, .string n, .string v, .slice A m c] 76)).alloc (.cells #[.string nm, .slice PA pm pc] 79)) W) => rRight_any 20 D t _ _ _ _ 20 W (HT.out.below hb) rfl (by omega))
  clear ht hp hbw
  cases hr : rightT 20 t
  all_goals
    have HR := Lib.hid hr
    rw [hr] at H20
    clear hr
    go_enter Try.func6, Try.ntmps6
    go_wp2_with fail
    refine (alive_any _).mono ?_
    rintro e w1 ⟨rfl, hc⟩
    have hB1 := hB0.trans (hc.mono hB0.size)
    clear hc
    obtain ⟨p0, p1, p2, p3⟩ := blkc (HP.out.below hB1 (by simp; omega))
    go_wp2_with fail
    refine (H20.out w1 hB1).mono ?_
    rintro e w2 ⟨rfl, hc⟩
    have hB2 := hB1.trans (hc.mono hB1.size)
    clear hc p0 p1 p2 p3
    obtain ⟨p0, p1, p2, p3⟩ := blkc (HP.out.below hB2 (by simp; omega))
    have HC := Lib.hid (cRight_any D t k n v A m c w2 (HT.out.below hB2))
    rw [HR.out] at HC
    go_wp2_with fail
    refine HC.out.mono ?_
    clear HC
    rintro e w3 ⟨rfl, hc⟩
    have hB3 := hB2.trans (hc.mono hB2.size)
    clear hc p0 p1 p2 p3
    obtain ⟨p0, p1, p2, p3⟩ := blkc (HP.out.below hB3 (by simp; omega))
    obtain ⟨q0, q1, -⟩ := blk2 (HQ.out.below hB3 (by simp))
    have HC := Lib.hid (cHolds_any nm PA pm pc ps D t k n v A m c w3 (HT.out.below hB3) (HPS.out.below hB3) hpm)
    rw [HR.out] at HC
    simp only [Bool.true_and, Bool.false_and] at HC
    go_wp2_with fail
    refine HC.out.mono ?_
    clear HC
    rintro e w4 ⟨rfl, hc⟩
    have hB4 := hB3.trans (hc.mono hB3.size)
    clear hc p0 p1 p2 p3 q0 q1
    obtain ⟨p0, p1, p2, p3⟩ := blkc (HP.out.below hB4 (by simp; omega))
    obtain ⟨q0, q1, -⟩ := blk2 (HQ.out.below hB4 (by simp))
  · go_wp2
    go_ret
    exact ⟨rfl, hbW.trans (hB4.mono hbW.size)⟩
  · have HC := Lib.hid (rHolds_any nm PA pm pc ps 20 D t _ _ _ _ w4 (HT.out.below hB4) HR.out (HPS.out.below hB4) hpm)
    go_wp2_with fail
    refine HC.out.mono ?_
    clear HC
    rintro e w5 ⟨rfl, hc⟩
    go_wp2
    go_ret
    exact ⟨rfl, hbW.trans ((hB4.trans (hc.mono hB4.size)).mono hbW.size)⟩
end Go.Proofs.Ytfgblmdmhgllgaa
