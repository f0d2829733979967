/- The document's parser of regular expressions: fail, escape, item. The document's parser of regular expressions: ranges in plain words; set, one. -/
import Derived.Test.YtjnhmcgjeljcmaaXw
import Derived.Test.YtjnhmcgjeljcmaaGr
import Derived.Deep.RegionHeld3
import Derived.BigRegion
import Derived.StillTailTactics
namespace Go.Proofs.Ytjnhmcgjeljcmaa
open Go.RowKit

theorem ybyte_true {s : ByteArray} {k : Nat} {c : UInt8} (h : byteAt s k = c) : (((byteAt s k).toNat : Int) == (c.toNat : Int)) = true := by rw [h]; simp
theorem ybyte_false {s : ByteArray} {k : Nat} {c : UInt8} (h : byteAt s k ≠ c) : (((byteAt s k).toNat : Int) == (c.toNat : Int)) = false := by
  rw [beq_eq_false_iff_ne]; intro e; exact h (UInt8.toNat_inj.1 (by omega))
theorem part_blk (w : World) (o : Obj) (a b c : Value) : Blk ((w.alloc o).alloc (.cells #[a, b, c] 142)) (w.heap.size + 1) 142 #[a, b, c] := by
  have := Blk.new (w.alloc o) 142 #[a, b, c]
  simpa using this
theorem below3 {B : Nat} {w V : World} (h : Below B w V) {p : Nat} (hp : B ≤ p) (a b c : Value) : Below B w (((V.setCell ⟨p, 0, none⟩ a).setCell ⟨p, 1, none⟩ b).setCell ⟨p, 2, none⟩ c) :=
  ((h.setCell (p := ⟨p, 0, none⟩) hp a).setCell (p := ⟨p, 1, none⟩) hp b).setCell (p := ⟨p, 2, none⟩) hp c
def partV (a c g : Int) : Value := .agg #[.int .i64 a, .int .i64 c, .int .i64 g]
def FailP (w : World) (a c at_ : Int) (e : Ending) (w' : World) : Prop := e = .returned (.agg #[.int .i64 a, .int .i64 c, .int .i64 at_]) ∧ Below w.heap.size w w'
set_option maxHeartbeats 1000000 in
set_option maxRecDepth 100000 in
theorem yfail_any (a g c at_ : Int) (w : World) : Calls Try.prog 69 #[.agg #[.int .i64 a, .int .i64 0, .int .i64 g], .int .i64 c, .int .i64 at_] w (FailP w a c at_) := by
  have b1 := (Below.refl w.heap.size w).alloc (Nat.le_refl _) (.cells #[.int .i64 a, .int .i64 c, .int .i64 at_] 142)
  have HB := Lib.hid (fun o => b1.alloc b1.size o)
  clear b1
  go_enter Try.func69, Try.ntmps69
  go_wp2
  refine bodyPost_ret (v := .agg #[.int .i64 a, .int .i64 c, .int .i64 at_]) (by simp [results, Try.results69, go_sem, *]) rfl ⟨rfl, ?_⟩
  exact HB.out _
def YL (w : World) (k : Nat) (r : Lr) (e : Ending) (w' : World) : Prop :=
  match r with
  | .ok c n => e = .returned (.tuple #[.int .u8 (c.toNat : Nat), .agg #[.int .i64 ((k + n : Nat) : Int), .int .i64 0, .int .i64 0]]) ∧ Below w.heap.size w w'
  | .err code off => (∃ (x : Int), e = .returned (.tuple #[.int .u8 0, .agg #[.int .i64 x, .int .i64 code, .int .i64 ((k + off : Nat) : Int)]])) ∧ Below w.heap.size w w'
set_option maxHeartbeats 2000000 in
set_option maxRecDepth 100000 in
theorem yescape_any (s : ByteArray) (k : Nat) (w : World) (hk : k < s.size) (hs : s.size ≤ 256) (h92 : byteAt s k = 92) : Calls Try.prog 142 #[.string s, .agg #[.int .i64 (k : Nat), .int .i64 0, .int .i64 0]] w (YL w k (letterX (restL s k))) := by
  have b2 := ((Below.refl w.heap.size w).alloc (Nat.le_refl _) (.cells #[.int .i64 (k : Nat), .int .i64 0, .int .i64 0] 142)).alloc (by simp) (.cells #[.int .i64 0, .int .i64 0, .int .i64 0] 142)
  have q1 : IntKind.i64.wrap ((k : Int) + 1) = (k : Int) + 1 := IntWalk.i64_in _ (by omega)
  have q2 : IntKind.i64.wrap ((k : Int) + 2) = (k : Int) + 2 := IntWalk.i64_in _ (by omega)
  rcases Nat.lt_or_ge (k + 1) s.size with h1 | h1
  · have hlt : ((k : Int) + 1) < (s.size : Int) := by omega
    have hlt' : ¬ (s.size : Int) ≤ (k : Int) + 1 := by omega
    have hbt := byteAt_eq s (k + 1) h1
    have htn : ((k : Int) + 1).toNat = k + 1 := by omega
    have hL : letterX (restL s k) = (if byteAt s (k + 1) = 110 then .ok 10 2 else if byteAt s (k + 1) = 116 then .ok 9 2 else if alnumB (byteAt s (k + 1)).toNat then .err 30 0 else .ok (byteAt s (k + 1)) 2) := by
      rw [rest_cons s k hk, rest_cons s (k + 1) h1]
      simp [letterX, h92]
    rw [hL]
    obtain ⟨d, hd⟩ : ∃ d, d = byteAt s (k + 1) := ⟨_, rfl⟩
    rw [← hd] at hbt ⊢
    have HB := Lib.hid (fun (o1 o2 : Obj) => (((Below.refl w.heap.size w).alloc (Nat.le_refl _) o1).alloc (by simp) o2).drew)
    have HS := Lib.hid (fun (o1 o2 : Obj) => (((Below.refl w.heap.size w).alloc (Nat.le_refl _) o1).alloc (by simp) o2))
    have q92 : (s[k + 1] : UInt8) = d := hbt
    clear hL hd
    by_cases h110 : d = 110
    · rw [if_pos h110]
      subst h110
      go_enter Try.func142, Try.ntmps142
      go_wp2
      go_region
      go_wp2
      refine bodyPost_ret (v := .tuple #[.int .u8 10, .agg #[.int .i64 ((k : Int) + 2), .int .i64 0, .int .i64 0]]) (by simp [results, Try.results142, go_sem, *]) rfl ⟨?_, HB.out _ _⟩
      rw [show ((k + 2 : Nat) : Int) = (k : Int) + 2 by omega]
      rfl
    rw [if_neg h110]
    by_cases h116 : d = 116
    · rw [if_pos h116]
      subst h116
      go_enter Try.func142, Try.ntmps142
      go_wp2
      go_region
      go_wp2
      refine bodyPost_ret (v := .tuple #[.int .u8 9, .agg #[.int .i64 ((k : Int) + 2), .int .i64 0, .int .i64 0]]) (by simp [results, Try.results142, go_sem, *]) rfl ⟨?_, HB.out _ _⟩
      rw [show ((k + 2 : Nat) : Int) = (k : Int) + 2 by omega]
      rfl
    rw [if_neg h116]
    have e110 : ((d.toNat : Int) == 110) = false := by rw [beq_eq_false_iff_ne]; intro e; exact h110 (UInt8.toNat_inj.1 (show d.toNat = 110 by omega))
    have e116 : ((d.toNat : Int) == 116) = false := by rw [beq_eq_false_iff_ne]; intro e; exact h116 (UInt8.toNat_inj.1 (show d.toNat = 116 by omega))
    have h0 : 0 ≤ (d.toNat : Int) := by omega
    have h255 : (d.toNat : Int) ≤ 255 := by have := d.toNat_lt; omega
    have F := Lib.hid (yfail_any ((k : Int) + 2) 0 30 (k : Nat))
    clear h110 h116
    rcases (by omega : (0 ≤ (d.toNat : Int) ∧ (d.toNat : Int) ≤ 47) ∨ (48 ≤ (d.toNat : Int) ∧ (d.toNat : Int) ≤ 57) ∨ (58 ≤ (d.toNat : Int) ∧ (d.toNat : Int) ≤ 64) ∨ (65 ≤ (d.toNat : Int) ∧ (d.toNat : Int) ≤ 90) ∨ (91 ≤ (d.toNat : Int) ∧ (d.toNat : Int) ≤ 96) ∨ (97 ≤ (d.toNat : Int) ∧ (d.toNat : Int) ≤ 122) ∨ (123 ≤ (d.toNat : Int) ∧ (d.toNat : Int) ≤ 255)) with ⟨h1, h2⟩ | ⟨h1, h2⟩ | ⟨h1, h2⟩ | ⟨h1, h2⟩ | ⟨h1, h2⟩ | ⟨h1, h2⟩ | ⟨h1, h2⟩
    · have ha : alnumB (d.toNat : Int) = false := by unfold alnumB; exact decide_eq_false (by omega)
      rw [ha, if_neg (by decide)]
      have g0 : ¬ (97 : Int) ≤ (d.toNat : Int) := by omega
      have g1 : (d.toNat : Int) ≤ 122 := by omega
      have g2 : ¬ (65 : Int) ≤ (d.toNat : Int) := by omega
      have g3 : (d.toNat : Int) ≤ 90 := by omega
      have g4 : ¬ (48 : Int) ≤ (d.toNat : Int) := by omega
      have g5 : (d.toNat : Int) ≤ 57 := by omega
      clear ha
      go_enter Try.func142, Try.ntmps142
      go_wp2
      go_region
      go_wp2
      refine bodyPost_ret (v := .tuple #[.int .u8 (d.toNat : Nat), .agg #[.int .i64 ((k : Int) + 2), .int .i64 0, .int .i64 0]]) (by simp [results, Try.results142, go_sem, *]) rfl ⟨?_, HB.out _ _⟩
      rw [show ((k + 2 : Nat) : Int) = (k : Int) + 2 by omega]
    · have ha : alnumB (d.toNat : Int) = true := by unfold alnumB; exact decide_eq_true (by omega)
      rw [ha, if_pos rfl]
      have g0 : ¬ (97 : Int) ≤ (d.toNat : Int) := by omega
      have g1 : (d.toNat : Int) ≤ 122 := by omega
      have g2 : ¬ (65 : Int) ≤ (d.toNat : Int) := by omega
      have g3 : (d.toNat : Int) ≤ 90 := by omega
      have g4 : (48 : Int) ≤ (d.toNat : Int) := by omega
      have g5 : (d.toNat : Int) ≤ 57 := by omega
      clear ha
      go_enter Try.func142, Try.ntmps142
      go_wp2_with fail
      refine (F.out _).mono ?_
      rintro e w1 ⟨rfl, b1⟩
      obtain ⟨c0, c1, c2, f0, f1, f2⟩ := blk3 ((part_blk w _ (.int .i64 0) (.int .i64 0) (.int .i64 0)).below b1 (by simp))
      have B1 := Lib.hid ((HS.out _ _).trans (b1.mono (HS.out _ _).size))
      clear b1
      go_wp2
      refine bodyPost_ret (v := .tuple #[.int .u8 0, .agg #[.int .i64 ((k : Int) + 2), .int .i64 30, .int .i64 (k : Nat)]]) (by simp [results, Try.results142, go_sem, *]) rfl ⟨⟨(k : Int) + 2, by simp⟩, ?_⟩
      exact below3 B1.out (by omega) _ _ _
    · have ha : alnumB (d.toNat : Int) = false := by unfold alnumB; exact decide_eq_false (by omega)
      rw [ha, if_neg (by decide)]
      have g0 : ¬ (97 : Int) ≤ (d.toNat : Int) := by omega
      have g1 : (d.toNat : Int) ≤ 122 := by omega
      have g2 : ¬ (65 : Int) ≤ (d.toNat : Int) := by omega
      have g3 : (d.toNat : Int) ≤ 90 := by omega
      have g4 : (48 : Int) ≤ (d.toNat : Int) := by omega
      have g5 : ¬ (d.toNat : Int) ≤ 57 := by omega
      clear ha
      go_enter Try.func142, Try.ntmps142
      go_wp2
      go_region
      go_wp2
      refine bodyPost_ret (v := .tuple #[.int .u8 (d.toNat : Nat), .agg #[.int .i64 ((k : Int) + 2), .int .i64 0, .int .i64 0]]) (by simp [results, Try.results142, go_sem, *]) rfl ⟨?_, HB.out _ _⟩
      rw [show ((k + 2 : Nat) : Int) = (k : Int) + 2 by omega]
    · have ha : alnumB (d.toNat : Int) = true := by unfold alnumB; exact decide_eq_true (by omega)
      rw [ha, if_pos rfl]
      have g0 : ¬ (97 : Int) ≤ (d.toNat : Int) := by omega
      have g1 : (d.toNat : Int) ≤ 122 := by omega
      have g2 : (65 : Int) ≤ (d.toNat : Int) := by omega
      have g3 : (d.toNat : Int) ≤ 90 := by omega
      have g4 : (48 : Int) ≤ (d.toNat : Int) := by omega
      have g5 : ¬ (d.toNat : Int) ≤ 57 := by omega
      clear ha
      go_enter Try.func142, Try.ntmps142
      go_wp2_with fail
      refine (F.out _).mono ?_
      rintro e w1 ⟨rfl, b1⟩
      obtain ⟨c0, c1, c2, f0, f1, f2⟩ := blk3 ((part_blk w _ (.int .i64 0) (.int .i64 0) (.int .i64 0)).below b1 (by simp))
      have B1 := Lib.hid ((HS.out _ _).trans (b1.mono (HS.out _ _).size))
      clear b1
      go_wp2
      refine bodyPost_ret (v := .tuple #[.int .u8 0, .agg #[.int .i64 ((k : Int) + 2), .int .i64 30, .int .i64 (k : Nat)]]) (by simp [results, Try.results142, go_sem, *]) rfl ⟨⟨(k : Int) + 2, by simp⟩, ?_⟩
      exact below3 B1.out (by omega) _ _ _
    · have ha : alnumB (d.toNat : Int) = false := by unfold alnumB; exact decide_eq_false (by omega)
      rw [ha, if_neg (by decide)]
      have g0 : ¬ (97 : Int) ≤ (d.toNat : Int) := by omega
      have g1 : (d.toNat : Int) ≤ 122 := by omega
      have g2 : (65 : Int) ≤ (d.toNat : Int) := by omega
      have g3 : ¬ (d.toNat : Int) ≤ 90 := by omega
      have g4 : (48 : Int) ≤ (d.toNat : Int) := by omega
      have g5 : ¬ (d.toNat : Int) ≤ 57 := by omega
      clear ha
      go_enter Try.func142, Try.ntmps142
      go_wp2
      go_region
      go_wp2
      refine bodyPost_ret (v := .tuple #[.int .u8 (d.toNat : Nat), .agg #[.int .i64 ((k : Int) + 2), .int .i64 0, .int .i64 0]]) (by simp [results, Try.results142, go_sem, *]) rfl ⟨?_, HB.out _ _⟩
      rw [show ((k + 2 : Nat) : Int) = (k : Int) + 2 by omega]
    · have ha : alnumB (d.toNat : Int) = true := by unfold alnumB; exact decide_eq_true (by omega)
      rw [ha, if_pos rfl]
      have g0 : (97 : Int) ≤ (d.toNat : Int) := by omega
      have g1 : (d.toNat : Int) ≤ 122 := by omega
      have g2 : (65 : Int) ≤ (d.toNat : Int) := by omega
      have g3 : ¬ (d.toNat : Int) ≤ 90 := by omega
      have g4 : (48 : Int) ≤ (d.toNat : Int) := by omega
      have g5 : ¬ (d.toNat : Int) ≤ 57 := by omega
      clear ha
      go_enter Try.func142, Try.ntmps142
      go_wp2_with fail
      refine (F.out _).mono ?_
      rintro e w1 ⟨rfl, b1⟩
      obtain ⟨c0, c1, c2, f0, f1, f2⟩ := blk3 ((part_blk w _ (.int .i64 0) (.int .i64 0) (.int .i64 0)).below b1 (by simp))
      have B1 := Lib.hid ((HS.out _ _).trans (b1.mono (HS.out _ _).size))
      clear b1
      go_wp2
      refine bodyPost_ret (v := .tuple #[.int .u8 0, .agg #[.int .i64 ((k : Int) + 2), .int .i64 30, .int .i64 (k : Nat)]]) (by simp [results, Try.results142, go_sem, *]) rfl ⟨⟨(k : Int) + 2, by simp⟩, ?_⟩
      exact below3 B1.out (by omega) _ _ _
    · have ha : alnumB (d.toNat : Int) = false := by unfold alnumB; exact decide_eq_false (by omega)
      rw [ha, if_neg (by decide)]
      have g0 : (97 : Int) ≤ (d.toNat : Int) := by omega
      have g1 : ¬ (d.toNat : Int) ≤ 122 := by omega
      have g2 : (65 : Int) ≤ (d.toNat : Int) := by omega
      have g3 : ¬ (d.toNat : Int) ≤ 90 := by omega
      have g4 : (48 : Int) ≤ (d.toNat : Int) := by omega
      have g5 : ¬ (d.toNat : Int) ≤ 57 := by omega
      clear ha
      go_enter Try.func142, Try.ntmps142
      go_wp2
      go_region
      go_wp2
      refine bodyPost_ret (v := .tuple #[.int .u8 (d.toNat : Nat), .agg #[.int .i64 ((k : Int) + 2), .int .i64 0, .int .i64 0]]) (by simp [results, Try.results142, go_sem, *]) rfl ⟨?_, HB.out _ _⟩
      rw [show ((k + 2 : Nat) : Int) = (k : Int) + 2 by omega]
  · have hlt : (s.size : Int) ≤ (k : Int) + 1 := by omega
    have hL : letterX (restL s k) = .err 31 1 := by
      rw [rest_cons s k hk, rest_nil s (k + 1) h1]
      simp [letterX, h92]
    rw [hL]
    have F := Lib.hid (yfail_any (k : Nat) 0 31 (s.size : Nat))
    clear hL
    go_enter Try.func142, Try.ntmps142
    have HS := Lib.hid (fun (o1 o2 : Obj) => (((Below.refl w.heap.size w).alloc (Nat.le_refl _) o1).alloc (by simp) o2))
    have HK := Lib.hid (show ((s.size : Nat) : Int) = ((k + 1 : Nat) : Int) by omega)
    go_wp2_with fail
    refine (F.out _).mono ?_
    rintro e w1 ⟨rfl, b1⟩
    obtain ⟨c0, c1, c2, f0, f1, f2⟩ := blk3 ((part_blk w _ (.int .i64 0) (.int .i64 0) (.int .i64 0)).below b1 (by simp))
    have B1 := Lib.hid ((HS.out _ _).trans (b1.mono (HS.out _ _).size))
    clear b1
    go_wp2
    refine bodyPost_ret (v := .tuple #[.int .u8 0, .agg #[.int .i64 (k : Nat), .int .i64 31, .int .i64 (s.size : Nat)]]) (by simp [results, Try.results142, go_sem, *]) rfl ⟨⟨(k : Nat), by rw [HK.out]⟩, ?_⟩
    exact below3 B1.out (by omega) _ _ _
set_option maxHeartbeats 2000000 in
set_option maxRecDepth 100000 in
theorem yitem_any (s : ByteArray) (k : Nat) (w : World) (hk : k ≤ s.size) (hs : s.size ≤ 256) : Calls Try.prog 159 #[.string s, .agg #[.int .i64 (k : Nat), .int .i64 0, .int .i64 0]] w (YL w k (letterX (restL s k))) := by
  have HS := Lib.hid (fun (o1 o2 : Obj) => (((Below.refl w.heap.size w).alloc (Nat.le_refl _) o1).alloc (by simp) o2))
  have q1 : IntKind.i64.wrap ((k : Int) + 1) = (k : Int) + 1 := IntWalk.i64_in _ (by omega)
  rcases Nat.lt_or_ge k s.size with h1 | h1
  · have hlt : ¬ (s.size : Int) ≤ (k : Int) := by omega
    have hlt2 : (k : Int) < (s.size : Int) := by omega
    have hbt := byteAt_eq s k h1
    by_cases h92 : byteAt s k = 92
    · have e92 : (((byteAt s k).toNat : Int) == 92) = true := ybyte_true h92
      have F := Lib.hid (fun W => yescape_any s k W h1 hs h92)
      obtain ⟨d, hd⟩ : ∃ d, d = byteAt s k := ⟨_, rfl⟩
      rw [← hd] at hbt e92
      clear h92 hd
      generalize letterX (restL s k) = r at F ⊢
      go_enter Try.func159, Try.ntmps159
      go_wp2_with fail
      refine (F.out _).mono ?_
      cases r with
      | ok c n =>
        rintro e w1 ⟨rfl, b1⟩
        obtain ⟨c0, c1, c2, f0, f1, f2⟩ := blk3 ((part_blk w _ (.int .i64 0) (.int .i64 0) (.int .i64 0)).below b1 (by simp))
        have B1 := Lib.hid ((HS.out _ _).trans (b1.mono (HS.out _ _).size))
        clear b1
        go_wp2
        refine bodyPost_ret (v := .tuple #[.int .u8 (c.toNat : Nat), .agg #[.int .i64 ((k : Int) + (n : Int)), .int .i64 0, .int .i64 0]]) (by simp [results, Try.results159, go_sem, *]) rfl ⟨?_, below3 B1.out (by omega) _ _ _⟩
        rw [show ((k + n : Nat) : Int) = (k : Int) + (n : Int) by omega]
      | err code off =>
        rintro e w1 ⟨⟨x, rfl⟩, b1⟩
        obtain ⟨c0, c1, c2, f0, f1, f2⟩ := blk3 ((part_blk w _ (.int .i64 0) (.int .i64 0) (.int .i64 0)).below b1 (by simp))
        have B1 := Lib.hid ((HS.out _ _).trans (b1.mono (HS.out _ _).size))
        clear b1
        go_wp2
        refine bodyPost_ret (v := .tuple #[.int .u8 0, .agg #[.int .i64 x, .int .i64 code, .int .i64 ((k : Int) + (off : Int))]]) (by simp [results, Try.results159, go_sem, *]) rfl ⟨⟨x, ?_⟩, below3 B1.out (by omega) _ _ _⟩
        rw [show ((k + off : Nat) : Int) = (k : Int) + (off : Int) by omega]
    · have e92 : (((byteAt s k).toNat : Int) == 92) = false := ybyte_false h92
      have hL : letterX (restL s k) = .ok (byteAt s k) 1 := by
        rw [rest_cons s k h1]
        simp [letterX, h92]
      rw [hL]
      obtain ⟨d, hd⟩ : ∃ d, d = byteAt s k := ⟨_, rfl⟩
      rw [← hd] at hbt e92 ⊢
      clear h92 hL hd
      have HB := Lib.hid (fun (o1 o2 : Obj) => (((Below.refl w.heap.size w).alloc (Nat.le_refl _) o1).alloc (by simp) o2).drew)
      go_enter Try.func159, Try.ntmps159
      go_wp2
      go_region
      go_wp2
      refine bodyPost_ret (v := .tuple #[.int .u8 (d.toNat : Nat), .agg #[.int .i64 ((k : Int) + 1), .int .i64 0, .int .i64 0]]) (by simp [results, Try.results159, go_sem, *]) rfl ⟨?_, HB.out _ _⟩
      rw [show ((k + 1 : Nat) : Int) = (k : Int) + 1 by omega]
  · have hlt : (s.size : Int) ≤ (k : Int) := by omega
    have hL : letterX (restL s k) = .err 31 0 := by rw [rest_nil s k h1]; rfl
    rw [hL]
    have F := Lib.hid (yfail_any (k : Nat) 0 31 (s.size : Nat))
    have HK := Lib.hid (show ((s.size : Nat) : Int) = ((k + 0 : Nat) : Int) by omega)
    clear hL
    go_enter Try.func159, Try.ntmps159
    go_wp2_with fail
    refine (F.out _).mono ?_
    rintro e w1 ⟨rfl, b1⟩
    obtain ⟨c0, c1, c2, f0, f1, f2⟩ := blk3 ((part_blk w _ (.int .i64 0) (.int .i64 0) (.int .i64 0)).below b1 (by simp))
    have B1 := Lib.hid ((HS.out _ _).trans (b1.mono (HS.out _ _).size))
    clear b1
    go_wp2
    refine bodyPost_ret (v := .tuple #[.int .u8 0, .agg #[.int .i64 (k : Nat), .int .i64 31, .int .i64 (s.size : Nat)]]) (by simp [results, Try.results159, go_sem, *]) rfl ⟨⟨(k : Nat), by rw [HK.out]⟩, ?_⟩
    exact below3 B1.out (by omega) _ _ _
end Go.Proofs.Ytjnhmcgjeljcmaa
namespace Go.Proofs.Ytjnhmcgjeljcmaa
open Go.RowKit

theorem ystarts_nil (c : UInt8) (l : List UInt8) : starts (c :: l) [] = false := rfl
theorem ystarts_cons (c x : UInt8) (l : List UInt8) : starts [c] (x :: l) = (c == x) := by simp [starts, List.isPrefixOf]
/-- As the reference looks for a range: a byte must be behind the -. -/
def dashY (t : List UInt8) : Bool := decide (2 ≤ t.length) && dashB t
theorem ydash_one {t : List UInt8} (h : dashB t = true) (h2 : ¬ 2 ≤ t.length) : t = [45] := by
  match t with
  | [] => simp [dashB, ystarts_nil] at h
  | [x] =>
    simp only [dashB, ystarts_cons, Bool.and_eq_true, beq_iff_eq] at h
    rw [h.1]
  | x :: y :: t => simp at h2
theorem yitems_dash : itemsF letterX false [45] = .err 31 1 := by decide
theorem yitems_noDash {l : List UInt8} {first : Bool} {lo : UInt8} {n : Nat} (h : (!first && starts [93] l) = false) (h1 : letterX l = .ok lo n) (h2 : dashY (l.drop n) = false) :
    itemsF letterX first l = (itemsF letterX false (l.drop n)).more lo lo n := by
  have b1 := (good_letterX l).1 _ _ h1
  cases hd : dashB (l.drop n)
  · exact itemsF_more good_letterX h (by unfold rangeP; rw [h1]; simp only [hd]; rfl)
  · have h3 : ¬ 2 ≤ (l.drop n).length := by
      intro h4
      rw [dashY, hd, decide_eq_true h4] at h2; cases h2
    have h4 := ydash_one hd h3
    have h5 : l.length = n + 1 := by have := congrArg List.length h4; simp at this; omega
    have h6 : l.drop (n + 1) = [] := List.drop_eq_nil_of_le (by omega)
    have h7 : rangeP letterX l = .err 31 (n + 1) := by
      unfold rangeP; rw [h1]; simp only [hd, if_true, h6]; rfl
    rw [itemsF_err h h7, h4, yitems_dash]; rfl
theorem yitems_dashErr {l : List UInt8} {first : Bool} {lo : UInt8} {n : Nat} {c : Int} {o : Nat} (h : (!first && starts [93] l) = false) (h1 : letterX l = .ok lo n) (h2 : dashY (l.drop n) = true) (h3 : letterX (l.drop (n + 1)) = .err c o) :
    itemsF letterX first l = .err c (n + 1 + o) := by
  have hd : dashB (l.drop n) = true := by simp only [dashY, Bool.and_eq_true] at h2; exact h2.2
  exact itemsF_err h (by unfold rangeP; rw [h1]; simp only [hd, if_true, h3])
theorem yitems_dashBad {l : List UInt8} {first : Bool} {lo hi : UInt8} {n m : Nat} (h : (!first && starts [93] l) = false) (h1 : letterX l = .ok lo n) (h2 : dashY (l.drop n) = true) (h3 : letterX (l.drop (n + 1)) = .ok hi m) (h4 : hi < lo) :
    itemsF letterX first l = .err 32 0 := by
  have hd : dashB (l.drop n) = true := by simp only [dashY, Bool.and_eq_true] at h2; exact h2.2
  exact itemsF_err h (by unfold rangeP; rw [h1]; simp only [hd, if_true, h3, h4])
theorem yitems_dashOk {l : List UInt8} {first : Bool} {lo hi : UInt8} {n m : Nat} (h : (!first && starts [93] l) = false) (h1 : letterX l = .ok lo n) (h2 : dashY (l.drop n) = true) (h3 : letterX (l.drop (n + 1)) = .ok hi m) (h4 : ¬ hi < lo) :
    itemsF letterX first l = (itemsF letterX false (l.drop (n + 1 + m))).more lo hi (n + 1 + m) := by
  have hd : dashB (l.drop n) = true := by simp only [dashY, Bool.and_eq_true] at h2; exact h2.2
  exact itemsF_more good_letterX h (by unfold rangeP; rw [h1]; simp only [hd, if_true, h3, h4, if_false])
theorem yitems_letterErr {l : List UInt8} {first : Bool} {c : Int} {o : Nat} (h : (!first && starts [93] l) = false) (h1 : letterX l = .err c o) : itemsF letterX first l = .err c o :=
  itemsF_err h (by unfold rangeP; rw [h1])

theorem ybyte_ne_true {s : ByteArray} {k : Nat} {c : UInt8} (h : byteAt s k ≠ c) : (((byteAt s k).toNat : Int) != (c.toNat : Int)) = true := by
  rw [bne_iff_ne]; intro e; exact h (UInt8.toNat_inj.1 (by omega))
theorem ybyte_ne_false {s : ByteArray} {k : Nat} {c : UInt8} (h : byteAt s k = c) : (((byteAt s k).toNat : Int) != (c.toNat : Int)) = false := by rw [h]; simp
theorem ystarts_rest (s : ByteArray) (k : Nat) (c : UInt8) (h : k < s.size) : starts [c] (restL s k) = (byteAt s k == c) := by
  rw [rest_cons s k h, ystarts_cons, Bool.eq_iff_iff]; simp only [beq_iff_eq]; exact eq_comm
/-- Whether a range goes on at k, as the reference asks it. -/
theorem dashY_at (s : ByteArray) (k : Nat) : dashY (restL s k) = (decide (k + 1 < s.size) && (byteAt s k == 45) && !(byteAt s (k + 1) == 93)) := by
  by_cases h : k + 1 < s.size
  · rw [rest_cons s k (by omega), rest_cons s (k + 1) h]
    simp only [dashY, dashB, h, decide_true, Bool.true_and, List.length_cons, ystarts_cons]
    have h2 : decide (2 ≤ (restL s (k + 1 + 1)).length + 1 + 1) = true := by simp
    rw [h2, Bool.true_and]
    have h3 : starts [45, 93] (byteAt s k :: byteAt s (k + 1) :: restL s (k + 1 + 1)) = ((45 == byteAt s k) && (93 == byteAt s (k + 1))) := by simp [starts, List.isPrefixOf]
    rw [h3, show (45 == byteAt s k) = (byteAt s k == 45) from Bool.eq_iff_iff.2 ⟨fun h => by rw [beq_iff_eq] at h ⊢; exact h.symm, fun h => by rw [beq_iff_eq] at h ⊢; exact h.symm⟩,
      show (93 == byteAt s (k + 1)) = (byteAt s (k + 1) == 93) from Bool.eq_iff_iff.2 ⟨fun h => by rw [beq_iff_eq] at h ⊢; exact h.symm, fun h => by rw [beq_iff_eq] at h ⊢; exact h.symm⟩]
    cases (byteAt s k == 45) <;> cases (byteAt s (k + 1) == 93) <;> rfl
  · have h2 : ¬ 2 ≤ (restL s k).length := by rw [rest_len]; omega
    simp [dashY, h, h2]
set_option maxHeartbeats 1000000 in
set_option maxRecDepth 100000 in
theorem yset_any (A : Option Addr) (n c : Nat) (rs : List (UInt8 × UInt8)) (neg : Bool) (w : World) (hr : RgAt w (· < w.heap.size) A n rs) (hn : n ≤ maxLen) :
    Calls Try.prog 140 #[.slice A n c, .bool neg] w fun e w' => NodeRes w (.mk 1 (rangesL rs neg) []) e w' ∧ Below w.heap.size w w' := by
  have ba := (Below.refl w.heap.size w).alloc (Nat.le_refl _) (.cells #[.int .i64 0, .slice none 0 0, .slice none 0 0] 26)
  have HBA := Lib.hid ba
  have C := Lib.hid (rranges_any A n c rs neg (w.alloc (.cells #[.int .i64 0, .slice none 0 0, .slice none 0 0] 26)) ((hr.keep (fun i hi => ba.block i hi)).mono fun b hb => Nat.lt_of_lt_of_le hb ba.size) hn)
  have HT := Lib.hid (Blk.new w 26 #[.int .i64 0, .slice none 0 0, .slice none 0 0])
  have hlt : w.heap.size < (w.alloc (.cells #[.int .i64 0, .slice none 0 0, .slice none 0 0] 26)).heap.size := by simp
  clear hr ba
  go_enter Try.func140, Try.ntmps140
  go_wp2_with fail
  refine C.out.mono ?_
  rintro e w3 ⟨v3, rfl, o3, b3⟩
  obtain ⟨A3, c3, rfl, _, hm3, r3⟩ := rg_of_own o3
  obtain ⟨p0, p1, p2, z0, z1, z2⟩ := blk3 (HT.out.below b3 hlt)
  have HB3 := Lib.hid (HBA.out.trans (b3.mono HBA.out.size))
  have HTr := Lib.hid (tree_leaf (k := 1) (c := c3) hm3 r3 0)
  clear o3 r3 b3 C
  go_wp2
  refine bodyPost_ret (v := .agg #[.int .i64 1, .slice A3 (rangesL rs neg).length c3, .slice none 0 0]) (by simp [results, Try.results140, go_sem, *]) rfl ⟨⟨1, 1, A3, _, c3, none, 0, 0, rfl, ?_⟩, below3 HB3.out (Nat.le_refl _) _ _ _⟩
  refine (HTr.out.keep (w' := ((w3.setCell ⟨w.heap.size, 0, none⟩ (.int .i64 1)).setCell ⟨w.heap.size, 1, none⟩ (.slice A3 (rangesL rs neg).length c3)).setCell ⟨w.heap.size, 2, none⟩ (.slice none 0 0)) fun b hb => ?_).mono fun b hb => ⟨?_, ?_⟩
  · have : b ≠ w.heap.size := by have := hb.1; omega
    rw [Below.heap_setCell _ _ _ _ this, Below.heap_setCell _ _ _ _ this, Below.heap_setCell _ _ _ _ this]
  · have := hb.1; omega
  · simp [World.setCell]; have := hb.2.1; omega
set_option maxHeartbeats 1000000 in
set_option maxRecDepth 100000 in
theorem yone_any (c : UInt8) (w : World) : Calls Try.prog 143 #[.int .u8 (c.toNat : Nat)] w fun e w' => NodeRes w (.mk 1 (rangesL [(c, c)] false) []) e w' ∧ Below w.heap.size w w' := by
  have ba := (Below.refl w.heap.size w).alloc (Nat.le_refl _) (.cells #[.int .i64 0, .slice none 0 0, .slice none 0 0] 26)
  have bb := ba.alloc ba.size (.cells #[.int .u8 (c.toNat : Nat), .int .u8 (c.toNat : Nat)] 37)
  have HBB := Lib.hid bb
  have hrb : Blk ((w.alloc (.cells #[.int .i64 0, .slice none 0 0, .slice none 0 0] 26)).alloc (.cells #[.int .u8 (c.toNat : Nat), .int .u8 (c.toNat : Nat)] 37)) (w.heap.size + 1) 37 #[.int .u8 (c.toNat : Nat), .int .u8 (c.toNat : Nat)] := heap_alloc_new2 w _ _
  have C := Lib.hid (yset_any (some ⟨w.heap.size + 1, 0, none⟩) 1 1 [(c, c)] false ((w.alloc (.cells #[.int .i64 0, .slice none 0 0, .slice none 0 0] 26)).alloc (.cells #[.int .u8 (c.toNat : Nat), .int .u8 (c.toNat : Nat)] 37)) ⟨rfl, fun _ => ⟨w.heap.size + 1, 0, rfl, by simp, fun i r hr => by
    obtain ⟨p0, p1, _, _⟩ := blk2 hrb
    match i, hr with
    | 0, hr => simp at hr; subst hr; exact ⟨p0, p1⟩⟩⟩ (by decide))
  have HT := Lib.hid ((Blk.new w 26 #[.int .i64 0, .slice none 0 0, .slice none 0 0]).alloc (.cells #[.int .u8 (c.toNat : Nat), .int .u8 (c.toNat : Nat)] 37))
  have hlt : w.heap.size + 1 < ((w.alloc (.cells #[.int .i64 0, .slice none 0 0, .slice none 0 0] 26)).alloc (.cells #[.int .u8 (c.toNat : Nat), .int .u8 (c.toNat : Nat)] 37)).heap.size := by simp
  clear ba bb hrb
  go_enter Try.func143, Try.ntmps143
  go_wp2_with fail
  refine C.out.mono ?_
  rintro e w3 ⟨⟨d3, kk, A3, n3, c3, A3', n3', c3', rfl, ht3⟩, b3⟩
  obtain ⟨p0, p1, p2, z0, z1, z2⟩ := blk3 (HT.out.below b3 (by omega))
  have HB3 := Lib.hid (HBB.out.trans (b3.mono HBB.out.size))
  have HTr := Lib.hid ht3
  clear ht3 b3 C
  go_wp2
  refine bodyPost_ret (v := .agg #[.int .i64 kk, .slice A3 n3 c3, .slice A3' n3' c3']) (by simp [results, Try.results143, go_sem, *]) rfl ⟨⟨d3, kk, A3, n3, c3, A3', n3', c3', rfl, ?_⟩, below3 HB3.out (Nat.le_refl _) _ _ _⟩
  refine (HTr.out.keep (w' := ((w3.setCell ⟨w.heap.size, 0, none⟩ (.int .i64 kk)).setCell ⟨w.heap.size, 1, none⟩ (.slice A3 n3 c3)).setCell ⟨w.heap.size, 2, none⟩ (.slice A3' n3' c3')) fun b hb => ?_).mono fun b hb => ⟨?_, ?_⟩
  · have : b ≠ w.heap.size := by have := hb.1; omega
    rw [Below.heap_setCell _ _ _ _ this, Below.heap_setCell _ _ _ _ this, Below.heap_setCell _ _ _ _ this]
  · have := hb.1; omega
  · simp [World.setCell]; exact hb.2
end Go.Proofs.Ytjnhmcgjeljcmaa
