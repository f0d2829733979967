/- cond.Simple; the law's examples. -/
import Derived.Test.YtfgblmdmhgllgaaCt
import Derived.Test.YtfgblmdmhgllgaaCm
namespace Go.Proofs.Ytfgblmdmhgllgaa
open Go.RowKit Go.Maps

def zeroC : CT := .mk 0 ⟨#[]⟩ ⟨#[]⟩ []
def simpleL (t : CT) : CT := if rightT 20 t then simpT false t else zeroC
set_option maxHeartbeats 1000000 in
set_option maxRecDepth 100000 in
theorem cSimple_any (D : Nat) (t : CT) (k : Int) (n v : ByteArray) (A : Option Addr) (m c : Nat) (w : World) (ht : CondAt w (· < w.heap.size) D t [.int .i64 k, .string n, .string v, .slice A m c]) (hl : (namesT t).length ≤ 1000000000) :
    Calls Try.prog 48 #[.agg #[.int .i64 k, .string n, .string v, .slice A m c]] w (SPost w (simpleL t)) := by
  have hbw := ((Below.refl _ w).alloc (Nat.le_refl _) (.cells #[.int .i64 k, .string n, .string v, .slice A m c] 76)).alloc (by simp) (.cells #[.int .i64 0, .string ⟨#[]⟩, .string ⟨#[]⟩, .slice none 0 0] 76)
  have HP := Lib.hid (show Blk ((w.alloc (.cells #[.int .i64 k, .string n, .string v, .slice A m c] 76)).alloc (.cells #[.int .i64 0, .string ⟨#[]⟩, .string ⟨#[]⟩, .slice none 0 0] 76)) w.heap.size 76 #[.int .i64 k, .string n, .string v, .slice A m c] from (Blk.new w _ _).alloc _)
  have HZ := Lib.hid (show Blk ((w.alloc (.cells #[.int .i64 k, .string n, .string v, .slice A m c] 76)).alloc (.cells #[.int .i64 0, .string ⟨#[]⟩, .string ⟨#[]⟩, .slice none 0 0] 76)) (w.heap.size + 1) 76 #[.int .i64 0, .string ⟨#[]⟩, .string ⟨#[]⟩, .slice none 0 0] by simpa using Blk.new (w.alloc (.cells #[.int .i64 k, .string n, .string v, .slice A m c] 76)) 76 _)
  have HC := Lib.hid (cRight_any D t k n v A m c _ (ht.below hbw))
  cases hr : rightT 20 t
  · rw [hr] at HC
    have HN := Lib.hid (show simpleL t = zeroC by unfold simpleL; rw [hr]; rfl)
    clear hr
    go_enter Try.func48, Try.ntmps48
    go_wp2_with ((with_reducible refine HC.out.mono ?_); rintro e w1 ⟨rfl, hb1⟩; obtain ⟨z0, z1, z2, z3, y0, y1, y2, y3⟩ := blkz (HZ.out.below hb1 (by simp)))
    refine bodyPost_ret (v := .agg #[.int .i64 0, .string ⟨#[]⟩, .string ⟨#[]⟩, .slice none 0 0]) (by simp [results, Try.results48, go_sem, *]) rfl ?_
    rw [HN.out]
    refine ⟨0, ⟨#[]⟩, ⟨#[]⟩, none, 0, 0, 1, rfl, CondAt.of (d := 0) (Nat.zero_le _) (Nat.zero_le _) (Nat.zero_le _) (Nat.le_refl _) ⟨rfl, fun h => by omega⟩, ?_⟩
    exact set4_below (hbw.trans (hb1.mono (by simp; omega))) (by omega)
  · rw [hr] at HC
    have HN := Lib.hid (show simpleL t = simpT false t by unfold simpleL; rw [hr]; rfl)
    have HR := Lib.hid hr
    clear hr
    go_enter Try.func48, Try.ntmps48
    go_wp2_with ((with_reducible refine HC.out.mono ?_); rintro e w1 ⟨rfl, hb1⟩; obtain ⟨p0, p1, p2, p3⟩ := blkc (HP.out.below hb1 (by simp; omega)))
    have hb2 := hbw.trans (hb1.mono (by simp; omega))
    refine (csimple_any 20 D t false _ _ _ _ _ (ht.below hb2) HR.out hl).mono ?_
    rintro e w3 ⟨rk, rn, rv, rA, rm, rc, rD, rfl, hc, hb3⟩
    have hz1 := hb1.size
    simp only [World.size_alloc] at hz1
    have hz3 := hb3.size
    obtain ⟨z0, z1, z2, z3, y0, y1, y2, y3⟩ := blkz ((HZ.out.below hb1 (by simp)).below hb3 (by omega))
    have HC1 := Lib.hid hc
    clear hc p0 p1 p2 p3
    go_wp2
    refine bodyPost_ret (v := .agg #[.int .i64 rk, .string rn, .string rv, .slice rA rm rc]) (by simp [results, Try.results48, go_sem, *]) rfl ?_
    rw [HN.out]
    refine ⟨rk, rn, rv, rA, rm, rc, rD, rfl, ?_, set4_below (hb2.trans (hb3.mono hb2.size)) (by omega)⟩
    refine (HC1.out.keep fun j hj => set4_far _ _ _ _ _ _ j ?_).mono fun j hj => ⟨?_, ?_⟩
    · have := hj.1; omega
    · have := hj.1; omega
    · rw [set4_size]; exact hj.2
theorem lis_any (n v : ByteArray) (w : World) : Calls Try.prog 51 #[.string n, .string v] w fun e w' => e = .returned (.agg #[.int .i64 1, .string n, .string v, .slice none 0 0]) ∧ Below w.heap.size w w' := by
  have HB := Lib.hid ((Below.refl _ w).alloc (Nat.le_refl _) (.cells #[.int .i64 1, .string n, .string v, .slice none 0 0] 76))
  go_enter Try.func51, Try.ntmps51
  go_wp2
  refine bodyPost_ret (v := .agg #[.int .i64 1, .string n, .string v, .slice none 0 0]) (by simp [results, Try.results51, go_sem, *]) rfl ⟨rfl, HB.out⟩
def isT (n v : ByteArray) : CT := .mk 1 n v []
def orT : CT := .mk 5 ⟨#[]⟩ ⟨#[]⟩ [isT ⟨#[97]⟩ ⟨#[49]⟩, isT ⟨#[97]⟩ ⟨#[50]⟩]
def noT : CT := .mk 3 ⟨#[]⟩ ⟨#[]⟩ [orT]
theorem is_at (w : World) (X : Nat → Prop) (d : Nat) (n v : ByteArray) (hn : n.size ≤ maxLen) (hv : v.size ≤ maxLen) : CondAt w X (d + 1) (isT n v) [.int .i64 1, .string n, .string v, .slice none 0 0] :=
  CondAt.of hn hv (Nat.zero_le _) (Nat.le_refl _) ⟨rfl, fun h => by omega⟩
/-- Two conditions that stand in a block of their own. -/
theorem two_kids {w : World} {X : Nat → Prop} {d b : Nat} {t u : CT} {a0 a1 a2 a3 b0 b1 b2 b3 : Value} (hb : Blk w b 76 #[a0, a1, a2, a3, b0, b1, b2, b3]) (hX : X b) (ht : CondAt w X d t [a0, a1, a2, a3]) (hu : CondAt w X d u [b0, b1, b2, b3]) : KidsAt w X d (some ⟨b, 0, none⟩) 2 [t, u] := by
  refine ⟨rfl, fun _ => ⟨b, 0, rfl, hX, fun i t' hi => ?_⟩⟩
  match i, hi with
  | 0, hi =>
    simp at hi
    subst hi
    exact ⟨a0, a1, a2, a3, hb.cell 0, hb.cell 1, hb.cell 2, hb.cell 3, ht⟩
  | 1, hi =>
    simp at hi
    subst hi
    exact ⟨b0, b1, b2, b3, hb.cell 4, hb.cell 5, hb.cell 6, hb.cell 7, hu⟩
theorem small_str (x : UInt8) : (⟨#[x]⟩ : ByteArray).size ≤ maxLen := by unfold maxLen; show 1 ≤ _; omega
theorem empty_str : (⟨#[]⟩ : ByteArray).size ≤ maxLen := Nat.zero_le _
theorem no_at {w : World} {X : Nat → Prop} {q r : Nat} (hq : Blk w q 76 #[.int .i64 1, .string ⟨#[97]⟩, .string ⟨#[49]⟩, .slice none 0 0, .int .i64 1, .string ⟨#[97]⟩, .string ⟨#[50]⟩, .slice none 0 0]) (hr : Blk w r 76 #[.int .i64 5, .string ⟨#[]⟩, .string ⟨#[]⟩, .slice (some ⟨q, 0, none⟩) 2 2]) (hXq : X q) (hXr : X r) :
    CondAt w X 3 noT [.int .i64 3, .string ⟨#[]⟩, .string ⟨#[]⟩, .slice (some ⟨r, 0, none⟩) 1 1] := by
  have ha := is_at w X 0 ⟨#[97]⟩ ⟨#[49]⟩ (small_str _) (small_str _)
  have hb := is_at w X 0 ⟨#[97]⟩ ⟨#[50]⟩ (small_str _) (small_str _)
  have hk := two_kids hq hXq ha hb
  have ho : CondAt w X 2 orT [.int .i64 5, .string ⟨#[]⟩, .string ⟨#[]⟩, .slice (some ⟨q, 0, none⟩) 2 2] := CondAt.of empty_str empty_str (by unfold maxLen; omega) (Nat.le_refl _) hk
  have h1 := one_kid hr hXr ho
  exact CondAt.of empty_str empty_str (by unfold maxLen; omega) (Nat.le_refl _) h1
/-- The document's example, made anew. -/
def NoPost (w : World) (e : Ending) (w' : World) : Prop := ∃ b : Nat, e = .returned (.agg #[.int .i64 3, .string ⟨#[]⟩, .string ⟨#[]⟩, .slice (some ⟨b, 0, none⟩) 1 1]) ∧ CondAt w' (New w w') 3 noT [.int .i64 3, .string ⟨#[]⟩, .string ⟨#[]⟩, .slice (some ⟨b, 0, none⟩) 1 1] ∧ Below w.heap.size w w'
set_option maxHeartbeats 1000000 in
set_option maxRecDepth 100000 in
theorem lno_any (w : World) : Calls Try.prog 43 #[] w (NoPost w) := by
  go_enter Try.func43, Try.ntmps43
  go_wp2_with fail
  refine (lis_any _ _ _).mono ?_
  rintro e w1 ⟨rfl, hb1⟩
  go_wp2_with fail
  refine (lis_any _ _ _).mono ?_
  rintro e w2 ⟨rfl, hb2⟩
  have hz1 := hb1.size
  have hz2 := hb2.size
  simp only [World.size_alloc] at hz1
  have hB := ((Below.refl _ w).alloc (Nat.le_refl _) (.cells #[.int .i64 0, .string ⟨#[]⟩, .string ⟨#[]⟩, .slice none 0 0] 76)).trans ((hb1.mono (by simp)).trans (hb2.mono (by omega)))
  obtain ⟨z0, z1, z2, z3, y0, y1, y2, y3⟩ := blkz (((Blk.new w 76 #[.int .i64 0, .string ⟨#[]⟩, .string ⟨#[]⟩, .slice none 0 0]).below hb1 (by simp)).below hb2 (by omega))
  have hl : w.heap.size < w2.heap.size := by omega
  have hl2 : w.heap.size < w2.heap.size + 1 := by omega
  have hl3 : w.heap.size < w2.heap.size + 1 + 1 := by omega
  go_wp2
  refine bodyPost_ret (v := .agg #[.int .i64 3, .string ⟨#[]⟩, .string ⟨#[]⟩, .slice (some ⟨w2.heap.size + 1, 0, none⟩) 1 1]) (by simp [results, Try.results43, go_sem, *]) rfl ?_
  show NoPost w _ ((((((w2.setCell ⟨w.heap.size, 0, none⟩ (.int .i64 3)).setCell ⟨w.heap.size, 1, none⟩ (.string ⟨#[]⟩)).setCell ⟨w.heap.size, 2, none⟩ (.string ⟨#[]⟩)).setCell ⟨w.heap.size, 3, none⟩ (.slice (some ⟨w2.heap.size + 1, 0, none⟩) 1 1)).alloc (.cells #[.int .i64 1, .string ⟨#[97]⟩, .string ⟨#[49]⟩, .slice none 0 0, .int .i64 1, .string ⟨#[97]⟩, .string ⟨#[50]⟩, .slice none 0 0] 76)).alloc (.cells #[.int .i64 5, .string ⟨#[]⟩, .string ⟨#[]⟩, .slice (some ⟨w2.heap.size, 0, none⟩) 2 2] 76))
  have hsz := set4_size w2 w.heap.size (.int .i64 3) (.string ⟨#[]⟩) (.string ⟨#[]⟩) (.slice (some ⟨w2.heap.size + 1, 0, none⟩) 1 1)
  have hB4 := set4_below (a := .int .i64 3) (b := .string ⟨#[]⟩) (c := .string ⟨#[]⟩) (d := .slice (some ⟨w2.heap.size + 1, 0, none⟩) 1 1) hB (Nat.le_refl _)
  generalize ((((w2.setCell ⟨w.heap.size, 0, none⟩ (.int .i64 3)).setCell ⟨w.heap.size, 1, none⟩ (.string ⟨#[]⟩)).setCell ⟨w.heap.size, 2, none⟩ (.string ⟨#[]⟩)).setCell ⟨w.heap.size, 3, none⟩ (.slice (some ⟨w2.heap.size + 1, 0, none⟩) 1 1)) = W5 at hsz hB4 ⊢
  rw [← hsz] at hl ⊢
  have hq : Blk ((W5.alloc (.cells #[.int .i64 1, .string ⟨#[97]⟩, .string ⟨#[49]⟩, .slice none 0 0, .int .i64 1, .string ⟨#[97]⟩, .string ⟨#[50]⟩, .slice none 0 0] 76)).alloc (.cells #[.int .i64 5, .string ⟨#[]⟩, .string ⟨#[]⟩, .slice (some ⟨W5.heap.size, 0, none⟩) 2 2] 76)) W5.heap.size 76 #[.int .i64 1, .string ⟨#[97]⟩, .string ⟨#[49]⟩, .slice none 0 0, .int .i64 1, .string ⟨#[97]⟩, .string ⟨#[50]⟩, .slice none 0 0] := (Blk.new W5 _ _).alloc _
  have hr : Blk ((W5.alloc (.cells #[.int .i64 1, .string ⟨#[97]⟩, .string ⟨#[49]⟩, .slice none 0 0, .int .i64 1, .string ⟨#[97]⟩, .string ⟨#[50]⟩, .slice none 0 0] 76)).alloc (.cells #[.int .i64 5, .string ⟨#[]⟩, .string ⟨#[]⟩, .slice (some ⟨W5.heap.size, 0, none⟩) 2 2] 76)) (W5.heap.size + 1) 76 #[.int .i64 5, .string ⟨#[]⟩, .string ⟨#[]⟩, .slice (some ⟨W5.heap.size, 0, none⟩) 2 2] := by
    simpa using Blk.new (W5.alloc (.cells #[.int .i64 1, .string ⟨#[97]⟩, .string ⟨#[49]⟩, .slice none 0 0, .int .i64 1, .string ⟨#[97]⟩, .string ⟨#[50]⟩, .slice none 0 0] 76)) 76 _
  exact ⟨W5.heap.size + 1, rfl, no_at hq hr ⟨by omega, by simp; omega⟩ ⟨by omega, by simp⟩, (hB4.alloc (by omega) _).alloc (by simp; omega) _⟩
end Go.Proofs.Ytfgblmdmhgllgaa
