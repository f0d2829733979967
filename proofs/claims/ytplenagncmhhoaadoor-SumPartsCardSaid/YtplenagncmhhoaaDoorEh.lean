/- Count, both ways; TraceCounts' walk. -/
import Derived.Test.YtplenagncmhhoaaDoorBk
import Derived.IntWalk
import Derived.Lib.Hide
namespace Go.Proofs.YtplenagncmhhoaaDoor
open Go.RowKit
def RssAt (w : World) (A : Option Addr) (n : Nat) (vs : List Int) : Prop :=
  vs.length = n ∧ n ≤ 9223372036854775807 ∧ (0 < n → ∃ b f, A = some ⟨b, f, none⟩ ∧ b < w.heap.size ∧ ∀ i v, vs[i]? = some v → (∃ s, w.cell? ⟨b, f + i * 2, none⟩ = some (.string s)) ∧ w.cell? ⟨b, f + i * 2 + 1, none⟩ = some (.int .i64 v))

/-- How many results have a verdict; 0: none. -/
def cntB (v : Int) (x : Int) : Bool := x == v || (v == 0 && (decide (x < 0) || decide (7 < x)))
def cntL (vs : List Int) (v : Int) : Nat := (vs.filter (cntB v)).length
theorem cnt_take {vs : List Int} {j : Nat} {x : Int} (h : vs[j]? = some x) (v : Int) : cntL (vs.take (j + 1)) v = cntL (vs.take j) v + (if cntB v x = true then 1 else 0) := by
  obtain ⟨hl, hg⟩ := List.getElem?_eq_some_iff.1 h
  unfold cntL
  rw [List.take_succ_eq_append_getElem hl, List.filter_append, hg, List.length_append]
  by_cases hc : cntB v x = true <;> simp [hc]
theorem cnt_le (vs : List Int) (v : Int) (j : Nat) : cntL (vs.take j) v ≤ j := by
  unfold cntL
  exact Nat.le_trans (List.length_filter_le _ _) (List.length_take_le _ _)
/-- Each result is counted once. -/
theorem cnt_all : ∀ vs : List Int, cntL vs 0 + cntL vs 1 + cntL vs 2 + cntL vs 3 + cntL vs 4 + cntL vs 5 + cntL vs 6 + cntL vs 7 = vs.length
  | [] => rfl
  | x :: r => by
    have ih := cnt_all r
    have key : ∀ v, cntL (x :: r) v = cntL r v + (if cntB v x = true then 1 else 0) := fun v => by
      unfold cntL
      by_cases hc : cntB v x = true <;> simp [hc]
    rw [key, key, key, key, key, key, key, key, List.length_cons, ← ih]
    rcases (by omega : x = 0 ∨ x = 1 ∨ x = 2 ∨ x = 3 ∨ x = 4 ∨ x = 5 ∨ x = 6 ∨ x = 7 ∨ (x < 0 ∨ 7 < x)) with rfl | rfl | rfl | rfl | rfl | rfl | rfl | rfl | hx
    all_goals try (simp [cntB]; omega)
    have e : ∀ v : Int, 0 < v → v ≤ 7 → cntB v x = false := fun v h1 h2 => by simp [cntB]; omega
    have e0 : cntB 0 x = true := by simp [cntB]; omega
    rw [e 1 (by omega) (by omega), e 2 (by omega) (by omega), e 3 (by omega) (by omega), e 4 (by omega) (by omega), e 5 (by omega) (by omega), e 6 (by omega) (by omega), e 7 (by omega) (by omega), e0]
    simp
    omega
/-- The eight counts as cells. -/
def cntC (vs : List Int) : Array Value := #[.int .i64 (cntL vs 0 : Nat), .int .i64 (cntL vs 1 : Nat), .int .i64 (cntL vs 2 : Nat), .int .i64 (cntL vs 3 : Nat), .int .i64 (cntL vs 4 : Nat), .int .i64 (cntL vs 5 : Nat), .int .i64 (cntL vs 6 : Nat), .int .i64 (cntL vs 7 : Nat)]
section
variable {w w' : World} {A : Option Addr} {n c : Nat} {vs : List Int}
theorem RssAt.up (h : RssAt w A n vs) (hb : ∀ b, b < w.heap.size → w'.heap[b]? = w.heap[b]?) (hs : w.heap.size ≤ w'.heap.size) : RssAt w' A n vs :=
  ⟨h.1, h.2.1, fun hn => by
    obtain ⟨b, f, e, hlt, hc⟩ := h.2.2 hn
    refine ⟨b, f, e, Nat.lt_of_lt_of_le hlt hs, fun i x hx => ?_⟩
    have k := fun o => World.cell?_of_block (a := ⟨b, o, none⟩) (hb b hlt)
    obtain ⟨⟨s, h0⟩, h1⟩ := hc i x hx
    exact ⟨⟨s, (k _).trans h0⟩, (k _).trans h1⟩⟩
theorem RssAt.below (h : RssAt w A n vs) (hb : Below w.heap.size w w') : RssAt w' A n vs := h.up (fun b hlt => hb.block b hlt) hb.size
end
def IntDrew (w : World) (k : Int) (e : Ending) (w' : World) : Prop := e = .returned (.int .i64 k) ∧ w' = w
set_option maxHeartbeats 2000000 in
set_option maxRecDepth 100000 in
theorem rcount_any {w : World} {A : Option Addr} {n : Nat} {vs : List Int} (c : Nat) (v : Int) (h : RssAt w A n vs) :
    Calls Tryd.prog 36 #[.slice A n c, .int .i64 v] w (IntDrew w (cntL vs v : Nat)) := by
  have hl := h.1
  have hn := h.2.1
  go_enter Tryd.func36, Tryd.ntmps36
  go_wp2
  go_loop [5, 6] (fun k i => ∃ j : Nat, j ≤ n ∧ i = .int .i64 (j : Nat) ∧ k = .int .i64 (cntL (vs.take j) v : Nat)) (fun _ i => n - (intOf i).toNat)
  case atStart => exact ⟨0, Nat.zero_le _, rfl, rfl⟩
  case round =>
    obtain ⟨j, hj, rfl, rfl⟩ := hrel
    have hk := cnt_le vs v j
    by_cases hlt : j < n
    · have hlt' : (j : Int) < (n : Int) := by omega
      have hj0 : (0 : Int) ≤ (j : Int) := by omega
      obtain ⟨x, hz⟩ : ∃ z, vs[j]? = some z := ⟨vs[j]'(by omega), List.getElem?_eq_getElem _⟩
      obtain ⟨b1, o1, rfl, hb1, hc1⟩ := h.2.2 (by omega)
      obtain ⟨-, d1⟩ := hc1 j _ hz
      have HT := Lib.hid (cnt_take hz v)
      clear hc1 hz
      generalize cntL (vs.take j) v = q at hk HT ⊢
      have hcase : (x == v) = true ∨ ((x == v) = false ∧ (v == 0) = false) ∨ ((x == v) = false ∧ v = 0 ∧ x < 0) ∨ ((x == v) = false ∧ v = 0 ∧ 7 < x) ∨ ((x == v) = false ∧ v = 0 ∧ 0 ≤ x ∧ x ≤ 7) := by
        simp only [beq_iff_eq, beq_eq_false_iff_ne, ne_eq]; omega
      have hj1 : j + 1 ≤ n := by omega
      rcases hcase with h1 | ⟨h1, h2⟩ | ⟨h1, rfl, h3⟩ | ⟨h1, rfl, h3⟩ | ⟨h1, rfl, h3, h4⟩
      · have HX := Lib.hid (show cntB v x = true by simp [cntB, h1])
        rw [HX.out] at HT
        go_wp2
        go_round
        case rel => exact ⟨j + 1, hj1, by go_num, by rw [HT.out]; first | rfl | (simp; done) | go_num⟩
        case measure => simp [intOf]; omega
      · have HX := Lib.hid (show cntB v x = false by simp [cntB, h1, h2])
        rw [HX.out] at HT
        go_wp2
        go_round
        case rel => exact ⟨j + 1, hj1, by go_num, by rw [HT.out]; first | rfl | (simp; done) | go_num⟩
        case measure => simp [intOf]; omega
      · have HX := Lib.hid (show cntB 0 x = true by simp [cntB, h3])
        rw [HX.out] at HT
        go_wp2
        go_round
        case rel => exact ⟨j + 1, hj1, by go_num, by rw [HT.out]; first | rfl | (simp; done) | go_num⟩
        case measure => simp [intOf]; omega
      · have HX := Lib.hid (show cntB 0 x = true by simp [cntB, h3])
        rw [HX.out] at HT
        go_wp2
        go_round
        case rel => exact ⟨j + 1, hj1, by go_num, by rw [HT.out]; first | rfl | (simp; done) | go_num⟩
        case measure => simp [intOf]; omega
      · have HX := Lib.hid (show cntB 0 x = false by (have h9 : ¬ x = 0 := by simpa using h1); simp [cntB]; omega)
        rw [HX.out] at HT
        go_wp2
        go_round
        case rel => exact ⟨j + 1, hj1, by go_num, by rw [HT.out]; first | rfl | (simp; done) | go_num⟩
        case measure => simp [intOf]; omega
    · have hlt' : ¬ (j : Int) < (n : Int) := by omega
      have ht : vs.take j = vs := List.take_of_length_le (by omega)
      rw [ht]
      clear ht
      go_wp2
      go_ret
      exact ⟨rfl, rfl⟩
theorem cntC_step {vs : List Int} {j : Nat} {x : Int} (h : vs[j]? = some x) (k : Nat) (hk : k < 8) (hx : ∀ v : Int, 0 ≤ v → v ≤ 7 → cntB v x = decide (v = k)) :
    cntC (vs.take (j + 1)) = (cntC (vs.take j)).setIfInBounds k (.int .i64 ((cntL (vs.take j) k : Nat) + 1)) := by
  have e : ∀ v : Int, 0 ≤ v → v ≤ 7 → cntL (vs.take (j + 1)) v = cntL (vs.take j) v + (if v = (k : Int) then 1 else 0) := fun v h1 h2 => by
    rw [cnt_take h, hx v h1 h2]; simp
  unfold cntC
  rw [e 0 (by omega) (by omega), e 1 (by omega) (by omega), e 2 (by omega) (by omega), e 3 (by omega) (by omega), e 4 (by omega) (by omega), e 5 (by omega) (by omega), e 6 (by omega) (by omega), e 7 (by omega) (by omega)]
  rcases (by omega : k = 0 ∨ k = 1 ∨ k = 2 ∨ k = 3 ∨ k = 4 ∨ k = 5 ∨ k = 6 ∨ k = 7) with rfl | rfl | rfl | rfl | rfl | rfl | rfl | rfl
  all_goals simp
theorem cnt_in {x : Int} (k : Nat) (hk : (k : Int) = x) (h7 : k < 8) : ∀ v : Int, 0 ≤ v → v ≤ 7 → cntB v x = decide (v = k) := by
  intro v h1 h2
  unfold cntB
  rw [Bool.eq_iff_iff]
  simp
  omega
theorem cnt_out {x : Int} (h : x < 0 ∨ 7 < x) : ∀ v : Int, 0 ≤ v → v ≤ 7 → cntB v x = decide (v = (0 : Nat)) := by
  intro v h1 h2
  unfold cntB
  rw [Bool.eq_iff_iff]
  simp
  omega
theorem blk8 {w : World} {g : Nat} {t : TypeId} {a0 a1 a2 a3 a4 a5 a6 a7 : Value} (h : Blk w g t #[a0, a1, a2, a3, a4, a5, a6, a7]) :
    w.cell? ⟨g, 0, none⟩ = some a0 ∧ w.cell? ⟨g, 1, none⟩ = some a1 ∧ w.cell? ⟨g, 2, none⟩ = some a2 ∧ w.cell? ⟨g, 3, none⟩ = some a3 ∧ w.cell? ⟨g, 4, none⟩ = some a4 ∧ w.cell? ⟨g, 5, none⟩ = some a5 ∧ w.cell? ⟨g, 6, none⟩ = some a6 ∧ w.cell? ⟨g, 7, none⟩ = some a7 :=
  ⟨h.cell 0, h.cell 1, h.cell 2, h.cell 3, h.cell 4, h.cell 5, h.cell 6, h.cell 7⟩
theorem cnt_ret {W : World} {g : Nat} {vs : List Int} {tmps : Array Value} (h : Blk W g 31 (cntC vs)) (hp : tmps.getD 2 undef = .pointer (some ⟨g, 0, none⟩)) : (results Tryd.f35 tmps).run Tryd.prog W = .ok (.agg (cntC vs)) W := by
  obtain ⟨k0, k1, k2, k3, k4, k5, k6, k7⟩ := blk8 (show Blk W g 31 #[_, _, _, _, _, _, _, _] from h)
  have hp' : tmps[2]?.getD undef = .pointer (some ⟨g, 0, none⟩) := by simpa using hp
  simp [results, Tryd.results35, go_sem, hp', k0, k1, k2, k3, k4, k5, k6, k7, cntC]
def CntPost (w : World) (vs : List Int) (e : Ending) (w' : World) : Prop := e = .returned (.agg (cntC vs)) ∧ Below w.heap.size w w'
set_option maxHeartbeats 4000000 in
set_option maxRecDepth 100000 in
theorem count_any {w : World} {A : Option Addr} {n : Nat} {vs : List Int} (c : Nat) (h : RssAt w A n vs) :
    Calls Tryd.prog 35 #[.slice A n c] w (CntPost w vs) := by
  have hl := h.1
  have hn := h.2.1
  have HL := Lib.hid hl
  clear hl
  go_enter Tryd.func35, Tryd.ntmps35
  go_wp2
  go_loopw [8] (fun i wr => ∃ j : Nat, j ≤ n ∧ i = .int .i64 (j : Nat) ∧ Blk wr w.heap.size 31 #[.int .i64 0, .int .i64 0, .int .i64 0, .int .i64 0, .int .i64 0, .int .i64 0, .int .i64 0, .int .i64 0] ∧ Blk wr (w.heap.size + 1) 31 (cntC (vs.take j)) ∧ Below w.heap.size w wr) (fun i _ => n - (intOf i).toNat)
  case atStart =>
    refine ⟨0, Nat.zero_le _, rfl, (Blk.new w _ _).alloc _, ?_, ((Below.refl _ w).alloc (Nat.le_refl _) _).alloc (by simp) _⟩
    have := Blk.new (w.alloc (.cells #[.int .i64 0, .int .i64 0, .int .i64 0, .int .i64 0, .int .i64 0, .int .i64 0, .int .i64 0, .int .i64 0] 31)) 31 #[.int .i64 0, .int .i64 0, .int .i64 0, .int .i64 0, .int .i64 0, .int .i64 0, .int .i64 0, .int .i64 0]
    simpa [cntC, cntL] using this
  case round =>
    obtain ⟨j, hj, rfl, hz0, hz1, hb⟩ := hrel
    by_cases hlt : j < n
    · have hlt' : (j : Int) < (n : Int) := by omega
      have hj0 : (0 : Int) ≤ (j : Int) := by omega
      obtain ⟨x, hz⟩ : ∃ z, vs[j]? = some z := ⟨vs[j]'(by rw [HL.out]; omega), List.getElem?_eq_getElem _⟩
      obtain ⟨b1, o1, rfl, hb1, hc1⟩ := (h.below hb).2.2 (by omega)
      obtain ⟨⟨sn, d0⟩, d1⟩ := hc1 j _ hz
      have Z0 := Lib.hid hz0
      have Z1 := Lib.hid hz1
      have HB := Lib.hid hb
      have hle := fun v => cnt_le vs v j
      have l0 := hle 0; have l1 := hle 1; have l2 := hle 2; have l3 := hle 3; have l4 := hle 4; have l5 := hle 5; have l6 := hle 6; have l7 := hle 7
      obtain ⟨k0, k1, k2, k3, k4, k5, k6, k7⟩ := blk8 (show Blk wr (w.heap.size + 1) 31 #[_, _, _, _, _, _, _, _] from hz1)
      have f1 := fun i => hz1.frozen i
      have F0 := f1 0; have F1 := f1 1; have F2 := f1 2; have F3 := f1 3; have F4 := f1 4; have F5 := f1 5; have F6 := f1 6; have F7 := f1 7
      have hlt1 := hz1.lt
      have hne : w.heap.size + 1 ≠ wr.heap.size := by omega
      have hj1 : j + 1 ≤ n := by omega
      have ST := fun k hk hx => Lib.hid (cntC_step hz k hk hx)
      clear hle hc1 hz hz0 hz1 f1 hb
      generalize hq0 : cntL (vs.take j) 0 = q0 at l0 k0
      generalize hq1 : cntL (vs.take j) 1 = q1 at l1 k1
      generalize hq2 : cntL (vs.take j) 2 = q2 at l2 k2
      generalize hq3 : cntL (vs.take j) 3 = q3 at l3 k3
      generalize hq4 : cntL (vs.take j) 4 = q4 at l4 k4
      generalize hq5 : cntL (vs.take j) 5 = q5 at l5 k5
      generalize hq6 : cntL (vs.take j) 6 = q6 at l6 k6
      generalize hq7 : cntL (vs.take j) 7 = q7 at l7 k7
      have Q0 := Lib.hid hq0; have Q1 := Lib.hid hq1; have Q2 := Lib.hid hq2; have Q3 := Lib.hid hq3; have Q4 := Lib.hid hq4; have Q5 := Lib.hid hq5; have Q6 := Lib.hid hq6; have Q7 := Lib.hid hq7
      clear hq0 hq1 hq2 hq3 hq4 hq5 hq6 hq7
      rcases (by omega : x = 0 ∨ x = 1 ∨ x = 2 ∨ x = 3 ∨ x = 4 ∨ x = 5 ∨ x = 6 ∨ x = 7 ∨ x < 0 ∨ 7 < x) with rfl | rfl | rfl | rfl | rfl | rfl | rfl | rfl | hx | hx
      · have HST : Hid (cntC (vs.take (j + 1)) = (cntC (vs.take j)).setIfInBounds 0 (.int .i64 ((cntL (vs.take j) 0 : Nat) + 1))) := ST 0 (by omega) (cnt_in 0 rfl (by omega))
        clear ST
        go_wp2
        go_roundw
        case rel => exact ⟨j + 1, hj1, by go_num, (Z0.out.far (by show w.heap.size ≠ w.heap.size + 1; omega) _).alloc _, by rw [HST.out, Q0.out]; exact (Z1.out.set_ 0 _).alloc _, (HB.out.setCell (by show w.heap.size ≤ w.heap.size + 1; omega) _).alloc (by simpa [World.setCell] using HB.out.size) _⟩
        case measure => simp [intOf]; omega
      · have HST : Hid (cntC (vs.take (j + 1)) = (cntC (vs.take j)).setIfInBounds 1 (.int .i64 ((cntL (vs.take j) 1 : Nat) + 1))) := ST 1 (by omega) (cnt_in 1 rfl (by omega))
        clear ST
        go_wp2
        go_roundw
        case rel => exact ⟨j + 1, hj1, by go_num, (Z0.out.far (by show w.heap.size ≠ w.heap.size + 1; omega) _).alloc _, by rw [HST.out, Q1.out]; exact (Z1.out.set_ 1 _).alloc _, (HB.out.setCell (by show w.heap.size ≤ w.heap.size + 1; omega) _).alloc (by simpa [World.setCell] using HB.out.size) _⟩
        case measure => simp [intOf]; omega
      · have HST : Hid (cntC (vs.take (j + 1)) = (cntC (vs.take j)).setIfInBounds 2 (.int .i64 ((cntL (vs.take j) 2 : Nat) + 1))) := ST 2 (by omega) (cnt_in 2 rfl (by omega))
        clear ST
        go_wp2
        go_roundw
        case rel => exact ⟨j + 1, hj1, by go_num, (Z0.out.far (by show w.heap.size ≠ w.heap.size + 1; omega) _).alloc _, by rw [HST.out, Q2.out]; exact (Z1.out.set_ 2 _).alloc _, (HB.out.setCell (by show w.heap.size ≤ w.heap.size + 1; omega) _).alloc (by simpa [World.setCell] using HB.out.size) _⟩
        case measure => simp [intOf]; omega
      · have HST : Hid (cntC (vs.take (j + 1)) = (cntC (vs.take j)).setIfInBounds 3 (.int .i64 ((cntL (vs.take j) 3 : Nat) + 1))) := ST 3 (by omega) (cnt_in 3 rfl (by omega))
        clear ST
        go_wp2
        go_roundw
        case rel => exact ⟨j + 1, hj1, by go_num, (Z0.out.far (by show w.heap.size ≠ w.heap.size + 1; omega) _).alloc _, by rw [HST.out, Q3.out]; exact (Z1.out.set_ 3 _).alloc _, (HB.out.setCell (by show w.heap.size ≤ w.heap.size + 1; omega) _).alloc (by simpa [World.setCell] using HB.out.size) _⟩
        case measure => simp [intOf]; omega
      · have HST : Hid (cntC (vs.take (j + 1)) = (cntC (vs.take j)).setIfInBounds 4 (.int .i64 ((cntL (vs.take j) 4 : Nat) + 1))) := ST 4 (by omega) (cnt_in 4 rfl (by omega))
        clear ST
        go_wp2
        go_roundw
        case rel => exact ⟨j + 1, hj1, by go_num, (Z0.out.far (by show w.heap.size ≠ w.heap.size + 1; omega) _).alloc _, by rw [HST.out, Q4.out]; exact (Z1.out.set_ 4 _).alloc _, (HB.out.setCell (by show w.heap.size ≤ w.heap.size + 1; omega) _).alloc (by simpa [World.setCell] using HB.out.size) _⟩
        case measure => simp [intOf]; omega
      · have HST : Hid (cntC (vs.take (j + 1)) = (cntC (vs.take j)).setIfInBounds 5 (.int .i64 ((cntL (vs.take j) 5 : Nat) + 1))) := ST 5 (by omega) (cnt_in 5 rfl (by omega))
        clear ST
        go_wp2
        go_roundw
        case rel => exact ⟨j + 1, hj1, by go_num, (Z0.out.far (by show w.heap.size ≠ w.heap.size + 1; omega) _).alloc _, by rw [HST.out, Q5.out]; exact (Z1.out.set_ 5 _).alloc _, (HB.out.setCell (by show w.heap.size ≤ w.heap.size + 1; omega) _).alloc (by simpa [World.setCell] using HB.out.size) _⟩
        case measure => simp [intOf]; omega
      · have HST : Hid (cntC (vs.take (j + 1)) = (cntC (vs.take j)).setIfInBounds 6 (.int .i64 ((cntL (vs.take j) 6 : Nat) + 1))) := ST 6 (by omega) (cnt_in 6 rfl (by omega))
        clear ST
        go_wp2
        go_roundw
        case rel => exact ⟨j + 1, hj1, by go_num, (Z0.out.far (by show w.heap.size ≠ w.heap.size + 1; omega) _).alloc _, by rw [HST.out, Q6.out]; exact (Z1.out.set_ 6 _).alloc _, (HB.out.setCell (by show w.heap.size ≤ w.heap.size + 1; omega) _).alloc (by simpa [World.setCell] using HB.out.size) _⟩
        case measure => simp [intOf]; omega
      · have HST : Hid (cntC (vs.take (j + 1)) = (cntC (vs.take j)).setIfInBounds 7 (.int .i64 ((cntL (vs.take j) 7 : Nat) + 1))) := ST 7 (by omega) (cnt_in 7 rfl (by omega))
        clear ST
        go_wp2
        go_roundw
        case rel => exact ⟨j + 1, hj1, by go_num, (Z0.out.far (by show w.heap.size ≠ w.heap.size + 1; omega) _).alloc _, by rw [HST.out, Q7.out]; exact (Z1.out.set_ 7 _).alloc _, (HB.out.setCell (by show w.heap.size ≤ w.heap.size + 1; omega) _).alloc (by simpa [World.setCell] using HB.out.size) _⟩
        case measure => simp [intOf]; omega
      all_goals
        have HST : Hid (cntC (vs.take (j + 1)) = (cntC (vs.take j)).setIfInBounds 0 (.int .i64 ((cntL (vs.take j) 0 : Nat) + 1))) := ST 0 (by omega) (cnt_out (by omega))
        clear ST
        have hx8 : 8 ≤ x ∨ x < 0 := by omega
        rcases hx8 with hx8 | hx8
        · first | omega | (
            go_wp2
            go_roundw
            case rel => exact ⟨j + 1, hj1, by go_num, (Z0.out.far (by show w.heap.size ≠ w.heap.size + 1; omega) _).alloc _, by rw [HST.out, Q0.out]; exact (Z1.out.set_ 0 _).alloc _, (HB.out.setCell (by show w.heap.size ≤ w.heap.size + 1; omega) _).alloc (by simpa [World.setCell] using HB.out.size) _⟩
            case measure => simp [intOf]; omega)
        · first | omega | (
            go_wp2
            go_roundw
            case rel => exact ⟨j + 1, hj1, by go_num, (Z0.out.far (by show w.heap.size ≠ w.heap.size + 1; omega) _).alloc _, by rw [HST.out, Q0.out]; exact (Z1.out.set_ 0 _).alloc _, (HB.out.setCell (by show w.heap.size ≤ w.heap.size + 1; omega) _).alloc (by simpa [World.setCell] using HB.out.size) _⟩
            case measure => simp [intOf]; omega)
    · have hlt' : ¬ (j : Int) < (n : Int) := by omega
      have ht : vs.take j = vs := List.take_of_length_le (by rw [HL.out]; omega)
      rw [ht] at hz1
      clear ht
      obtain ⟨k0, k1, k2, k3, k4, k5, k6, k7⟩ := blk8 (show Blk wr (w.heap.size + 1) 31 #[_, _, _, _, _, _, _, _] from hz1)
      have f0 := hz0.frozen
      have F0 := f0 0; have F1 := f0 1; have F2 := f0 2; have F3 := f0 3; have F4 := f0 4; have F5 := f0 5; have F6 := f0 6; have F7 := f0 7
      obtain ⟨y0, y1, y2, y3, y4, y5, y6, y7⟩ := blk8 hz0
      have Z0 := Lib.hid hz0
      clear f0 hz0 hz1
      go_wp2
      refine bodyPost_ret (cnt_ret (vs := vs) (g := w.heap.size) ?_ rfl) rfl ⟨rfl, ?_⟩
      · exact (((((((Z0.out.set_ 0 _).set_ 1 _).set_ 2 _).set_ 3 _).set_ 4 _).set_ 5 _).set_ 6 _).set_ 7 _
      · exact (((((((hb.setCell (Nat.le_refl _) _).setCell (Nat.le_refl _) _).setCell (Nat.le_refl _) _).setCell (Nat.le_refl _) _).setCell (Nat.le_refl _) _).setCell (Nat.le_refl _) _).setCell (Nat.le_refl _) _).setCell (Nat.le_refl _) _
end Go.Proofs.YtplenagncmhhoaaDoor
