/- cursor.Tree: what the deferred function does, and the whole. -/
import Derived.Test.YtjnhmcgjeljcmaaGs
import Derived.Defers
import Derived.Recover
import Derived.RegionTactic
import Derived.BigRegion
namespace Go.Proofs.Ytjnhmcgjeljcmaa
open Go.RowKit

theorem arr15 (a b c x : Value) : (#[a, b, c] ++ ((Array.replicate 12 undef).setIfInBounds 2 x).setIfInBounds 0 x) = #[a, b, c, x, undef, x, undef, undef, undef, undef, undef, undef, undef, undef, undef] := rfl
theorem catch_idle (p q r : Addr) (w : World) :
    CallsD Try.prog 53 #[.pointer (some p), .pointer (some q), .pointer (some r)] .returning w fun e u' w' => e = .returned (.tuple #[]) ∧ u' = .returning ∧ w' = w := by
  refine callsD_of_wpS Try.func53 rfl fun c₀ cs hu => ?_
  apply wpS_seq
  apply wpS_region
  simp [wpOpsS, go_sem, recoverD, hu, Try.ntmps53, Exit.thenS]
  rw [arr15]
  refine wpS_of_wp ?_
  go_wp2
  cases c₀
  simp_all [bodyPostS, results, Try.results53]
theorem stores5 {w W : World} {g : Nat} {a x : Value} (k0 : Blk W g 26 #[.int .i64 0, .slice none 0 0, .slice none 0 0]) (k1 : Blk W (g + 1) 27 #[.int .i64 0]) (k2 : Blk W (g + 2) 3 #[.int .i64 0]) (kb : Below g w W) :
    Blk (((((W.setCell ⟨g, 0, none⟩ (.int .i64 0)).setCell ⟨g, 1, none⟩ (.slice none 0 0)).setCell ⟨g, 2, none⟩ (.slice none 0 0)).setCell ⟨g + 1, 0, none⟩ a).setCell ⟨g + 2, 0, none⟩ x).drew g 26 #[.int .i64 0, .slice none 0 0, .slice none 0 0] ∧
    Blk (((((W.setCell ⟨g, 0, none⟩ (.int .i64 0)).setCell ⟨g, 1, none⟩ (.slice none 0 0)).setCell ⟨g, 2, none⟩ (.slice none 0 0)).setCell ⟨g + 1, 0, none⟩ a).setCell ⟨g + 2, 0, none⟩ x).drew (g + 1) 27 #[a] ∧
    Blk (((((W.setCell ⟨g, 0, none⟩ (.int .i64 0)).setCell ⟨g, 1, none⟩ (.slice none 0 0)).setCell ⟨g, 2, none⟩ (.slice none 0 0)).setCell ⟨g + 1, 0, none⟩ a).setCell ⟨g + 2, 0, none⟩ x).drew (g + 2) 3 #[x] ∧
    Below g w (((((W.setCell ⟨g, 0, none⟩ (.int .i64 0)).setCell ⟨g, 1, none⟩ (.slice none 0 0)).setCell ⟨g, 2, none⟩ (.slice none 0 0)).setCell ⟨g + 1, 0, none⟩ a).setCell ⟨g + 2, 0, none⟩ x).drew := by
  refine ⟨Blk.drew ?_, Blk.drew ?_, Blk.drew ?_, Below.drew ?_⟩
  · have h := ((k0.set_ 0 (.int .i64 0)).set_ 1 (.slice none 0 0)).set_ 2 (.slice none 0 0)
    exact ((h.far (p := ⟨g + 1, 0, none⟩) (by simp) _).far (p := ⟨g + 2, 0, none⟩) (by simp) _)
  · have h := (((k1.far (p := ⟨g, 0, none⟩) (by simp) (.int .i64 0)).far (p := ⟨g, 1, none⟩) (by simp) (.slice none 0 0)).far (p := ⟨g, 2, none⟩) (by simp) (.slice none 0 0)).set_ 0 a
    exact h.far (p := ⟨g + 2, 0, none⟩) (by simp) _
  · have h := ((((k2.far (p := ⟨g, 0, none⟩) (by simp) (.int .i64 0)).far (p := ⟨g, 1, none⟩) (by simp) (.slice none 0 0)).far (p := ⟨g, 2, none⟩) (by simp) (.slice none 0 0)).far (p := ⟨g + 1, 0, none⟩) (by simp) a).set_ 0 x
    exact h
  · exact ((((kb.setCell (p := ⟨g, 0, none⟩) (Nat.le_refl _) _).setCell (p := ⟨g, 1, none⟩) (Nat.le_refl _) _).setCell (p := ⟨g, 2, none⟩) (Nat.le_refl _) _).setCell (p := ⟨g + 1, 0, none⟩) (by simp) _).setCell (p := ⟨g + 2, 0, none⟩) (by simp) _
set_option maxHeartbeats 1000000 in
set_option maxRecDepth 100000 in
theorem catch_panicking (g : Nat) (code : Int) (at_ : Nat) (older : List PanicEntry) (w : World) (h0 : Blk w g 26 #[.int .i64 0, .slice none 0 0, .slice none 0 0]) (h1 : Blk w (g + 1) 27 #[.int .i64 0]) (h2 : Blk w (g + 2) 3 #[.int .i64 0]) :
    CallsD Try.prog 53 #[.pointer (some ⟨g, 0, none⟩), .pointer (some ⟨g + 1, 0, none⟩), .pointer (some ⟨g + 2, 0, none⟩)] (.panicking ({ v := .iface 119 (.agg #[.int .i64 code, .int .i64 (at_ : Nat)]), recovered := false } :: older)) w fun e u' w' =>
      e = .returned (.tuple #[]) ∧ u' = .panicking ({ v := .iface 119 (.agg #[.int .i64 code, .int .i64 (at_ : Nat)]), recovered := true } :: older) ∧
      Blk w' g 26 #[.int .i64 0, .slice none 0 0, .slice none 0 0] ∧ Blk w' (g + 1) 27 #[.int .i64 code] ∧ Blk w' (g + 2) 3 #[.int .i64 (at_ : Nat)] ∧ Below g w w' := by
  refine callsD_of_wpS Try.func53 rfl fun c₀ cs hu => ?_
  apply wpS_seq
  apply wpS_region
  simp [wpOpsS, go_sem, recoverD, hu, Try.ntmps53, Exit.thenS]
  rw [arr15]
  refine wpS_of_wp ?_
  have hta : ∀ W : World, (Instr.typeAssert (.iface 119 (.agg #[.int .i64 code, .int .i64 (at_ : Nat)])) 20 119 false).run Try.prog W = .ok (.agg #[.int .i64 code, .int .i64 (at_ : Nat)]) W := fun W => by kernel_rfl
  have hl := h2.lt
  have k0 := h0.alloc (.cells #[.int .i64 code, .int .i64 (at_ : Nat)] 119)
  have k1 := h1.alloc (.cells #[.int .i64 code, .int .i64 (at_ : Nat)] 119)
  have k2 := h2.alloc (.cells #[.int .i64 code, .int .i64 (at_ : Nat)] 119)
  have k3 := Blk.new w 119 #[.int .i64 code, .int .i64 (at_ : Nat)]
  have kb : Below g w (w.alloc (.cells #[.int .i64 code, .int .i64 (at_ : Nat)] 119)) := (Below.refl _ w).alloc (by omega) _
  go_wp2_with fail
  generalize w.alloc (.cells #[.int .i64 code, .int .i64 (at_ : Nat)] 119) = W at *
  obtain ⟨p0, p1, p2, f0, f1, f2⟩ := blk3 k0
  have q0 : W.cell? ⟨g + 1, 0, none⟩ = some (.int .i64 0) := k1.cell 0
  have q1 : W.frozen? ⟨g + 1, 0, none⟩ = false := k1.frozen 0
  have r0 : W.cell? ⟨g + 2, 0, none⟩ = some (.int .i64 0) := k2.cell 0
  have r1 : W.frozen? ⟨g + 2, 0, none⟩ = false := k2.frozen 0
  obtain ⟨s0, s1, s2, s3⟩ := blk2 k3
  have hne : ¬ w.heap.size = g := by omega
  have hne1 : ¬ w.heap.size = g + 1 := by omega
  have hne2 : ¬ w.heap.size = g + 2 := by omega
  have hne3 : ¬ g = w.heap.size := by omega
  have hne4 : ¬ g + 1 = w.heap.size := by omega
  have hne5 : ¬ g + 2 = w.heap.size := by omega
  generalize w.heap.size = F at *
  go_region
  go_wp2
  simp [bodyPostS, results, Try.results53]
  exact stores5 k0 k1 k2 kb
end Go.Proofs.Ytjnhmcgjeljcmaa
