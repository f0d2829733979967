/- Tables of bools in memory, each row in a block of its own; the reference's none and same. -/
import Derived.Test.YtgcbcdbfeaepkaaBt
namespace Go.Proofs.Ytgcbcdbfeaepkaa
open Go.RowKit Go.Maps

/-- A table: a slice of n rows of n bools; no block of it lies below B. -/
structure Tab (w : World) (B g : Nat) (rb : Nat → Nat) (n : Nat) (T : Nat → Nat → Bool) : Prop where
  low : B ≤ g
  lt : g < w.heap.size
  row : ∀ i, i < n → w.cell? ⟨g, i, none⟩ = some (.slice (some ⟨rb i, 0, none⟩) n n)
  blk : ∀ i, i < n → B ≤ rb i ∧ rb i < w.heap.size ∧ rb i ≠ g
  inj : ∀ i k, i < n → k < n → rb i = rb k → i = k
  cell : ∀ i j, i < n → j < n → w.cell? ⟨rb i, j, none⟩ = some (.bool (T i j)) ∧ w.frozen? ⟨rb i, j, none⟩ = false
section
variable {w w' : World} {B g n : Nat} {rb : Nat → Nat} {T T' : Nat → Nat → Bool}
theorem Tab.keep (h : Tab w B g rb n T) (hk : ∀ b, B ≤ b → b < w.heap.size → w'.heap[b]? = w.heap[b]?) (hs : w.heap.size ≤ w'.heap.size) : Tab w' B g rb n T :=
  ⟨h.low, Nat.lt_of_lt_of_le h.lt hs, fun i hi => (World.cell?_of_block (a := ⟨g, i, none⟩) (hk g h.low h.lt)).trans (h.row i hi),
    fun i hi => ⟨(h.blk i hi).1, Nat.lt_of_lt_of_le (h.blk i hi).2.1 hs, (h.blk i hi).2.2⟩, h.inj,
    fun i j hi hj => ⟨(World.cell?_of_block (a := ⟨rb i, j, none⟩) (hk _ (h.blk i hi).1 (h.blk i hi).2.1)).trans (h.cell i j hi hj).1, (World.frozen?_of_block (a := ⟨rb i, j, none⟩) (hk _ (h.blk i hi).1 (h.blk i hi).2.1)).trans (h.cell i j hi hj).2⟩⟩
theorem Tab.below (h : Tab w B g rb n T) (hb : Below w.heap.size w w') : Tab w' B g rb n T := h.keep (fun b _ hlt => hb.block b hlt) hb.size
theorem Tab.mono {B' : Nat} (h : Tab w B g rb n T) (hB : B' ≤ B) : Tab w B' g rb n T := ⟨Nat.le_trans hB h.low, h.lt, h.row, fun i hi => ⟨Nat.le_trans hB (h.blk i hi).1, (h.blk i hi).2⟩, h.inj, h.cell⟩
theorem Tab.congr (h : Tab w B g rb n T) (hT : ∀ i j, i < n → j < n → T' i j = T i j) : Tab w B g rb n T' := ⟨h.low, h.lt, h.row, h.blk, h.inj, fun i j hi hj => by rw [hT i j hi hj]; exact h.cell i j hi hj⟩
theorem Tab.drew (h : Tab w B g rb n T) : Tab w.drew B g rb n T := ⟨h.low, h.lt, h.row, h.blk, h.inj, h.cell⟩
theorem Tab.drewN (h : Tab w B g rb n T) (k : Nat) : Tab (w.drewN k) B g rb n T := ⟨h.low, h.lt, h.row, h.blk, h.inj, h.cell⟩
theorem Tab.alloc (h : Tab w B g rb n T) (o : Obj) : Tab (w.alloc o) B g rb n T := h.keep (fun b _ hlt => Below.heap_alloc w o b hlt) (by simp)
/-- One of its cells turned. -/
theorem Tab.set_ (h : Tab w B g rb n T) {i j : Nat} (hi : i < n) (hj : j < n) {v : Bool} (hT : ∀ a b, a < n → b < n → T' a b = if a = i ∧ b = j then v else T a b) : Tab (w.setCell ⟨rb i, j, none⟩ (.bool v)) B g rb n T' := by
  have hne := (h.blk i hi).2.2
  refine ⟨h.low, by simpa [World.setCell] using h.lt, fun a ha => ?_, fun a ha => ⟨(h.blk a ha).1, by simpa [World.setCell] using (h.blk a ha).2.1, (h.blk a ha).2.2⟩, h.inj, fun a b ha hb => ?_⟩
  · rw [World.cell?_of_block (a := ⟨g, a, none⟩) (Below.heap_setCell w _ _ g (Ne.symm hne))]
    exact h.row a ha
  · have hf : (w.setCell ⟨rb i, j, none⟩ (.bool v)).frozen? ⟨rb a, b, none⟩ = false := by
      rw [World.frozen?_setCell]
      exact (h.cell a b ha hb).2
    refine ⟨?_, hf⟩
    rw [hT a b ha hb]
    by_cases e : a = i
    · subst e
      by_cases e2 : b = j
      · subst e2
        rw [if_pos ⟨rfl, rfl⟩]
        exact World.cell?_setCell_same w _ _ (h.cell a b ha hb).1
      · rw [if_neg (fun x => e2 x.2), World.cell?_setCell_other]
        · exact (h.cell a b ha hb).1
        · intro x; injection x with _ x _; exact e2 x.symm
    · rw [if_neg (fun x => e x.1), World.cell?_of_block (a := ⟨rb a, b, none⟩) (Below.heap_setCell w _ _ _ (fun x => e (h.inj a i ha hi x)))]
      exact (h.cell a b ha hb).1
end

theorem bools_info : (Try.prog.info? 134).map (fun i => (i.zero, i.size, i.bytes)) = some (some (.slice none 0 0), 1, 24) := by kernel_rfl
theorem bool_info : (Try.prog.info? 4).map (fun i => (i.zero, i.size, i.bytes)) = some (some (.bool false), 1, 1) := by kernel_rfl
/-- A row of bools, made. -/
theorem make_bools (W : World) (n : Nat) (hn : n ≤ 1000000) : (Instr.makeSlice 134 (.int .i64 (n : Int)) (.int .i64 (n : Int))).run Try.prog W = .ok (.slice (some ⟨W.heap.size, 0, none⟩) n n) (W.alloc (.cells (madeCells (Value.bool false).cells n) 4)) := by
  obtain ⟨i0, hi0, hz0, hz1, hz2⟩ := info_parts bool_info
  have := run_make (P := Try.prog) W 134 4 i0 _ Try.underlying134 hi0 hz0 .i64 .i64 (n : Int) (n : Int) (by omega) (by omega) (by rw [hz2]; omega) (by omega)
  rw [this, Int.toNat_natCast, hz1, Nat.mul_one]
theorem made_bool (n j : Nat) (h : j < n) : (madeCells (Value.bool false).cells n)[j]? = some (.bool false) := by
  unfold madeCells
  rw [Array.getElem?_map, Array.getElem?_range, if_pos h]
  simp [Value.cells, Nat.mod_one]
/-- The rows of a table in the making. -/
def rowsL (rb : Nat → Nat) (n k : Nat) : List Value := (List.range k).map fun i => .slice (some ⟨rb i, 0, none⟩) n n
theorem rowsL_succ (rb : Nat → Nat) (n k x : Nat) : rowsL (fun i => if i < k then rb i else x) n (k + 1) = rowsL rb n k ++ [.slice (some ⟨x, 0, none⟩) n n] := by
  unfold rowsL
  rw [List.range_succ, List.map_append]
  congr 1
  · exact List.map_congr_left fun i hi => by simp only [if_pos (List.mem_range.1 hi)]
  · simp
/-- A table in the making: k rows. -/
structure MkTab (w : World) (B : Nat) (v : Value) (rb : Nat → Nat) (n k : Nat) : Prop where
  own : w.ownsRow B 134 1 v k (rowsL rb n k)
  blk : ∀ i, i < k → B ≤ rb i ∧ rb i < w.heap.size ∧ some (rb i) ≠ v.ownBlock
  inj : ∀ i j, i < k → j < k → rb i = rb j → i = j
  cell : ∀ i j, i < k → j < n → w.cell? ⟨rb i, j, none⟩ = some (.bool false) ∧ w.frozen? ⟨rb i, j, none⟩ = false
theorem MkTab.done {w : World} {B n c : Nat} {A : Option Addr} {rb : Nat → Nat} (h : MkTab w B (.slice A n c) rb n n) (hn : 0 < n) : ∃ g, A = some ⟨g, 0, none⟩ ∧ n ≤ c ∧ Tab w B g rb n fun _ _ => false := by
  rcases h.own.2 with ⟨_, h0⟩ | ⟨g, cap, cur, e, h1, h2, h3, h4, h5, h6⟩
  · omega
  · injection e with e1 e2 e3
    subst e1 e3
    refine ⟨g, rfl, h3, h1, (Array.getElem?_eq_some_iff.1 h2).1, fun i hi => ?_, fun i hi => ⟨(h.blk i hi).1, (h.blk i hi).2.1, fun e => (h.blk i hi).2.2 (by rw [e]; rfl)⟩, h.inj, h.cell⟩
    rw [cell_of_row w g i cur 134 (0, 0) h2, ← Array.getElem?_toList]
    have h7 : (cur.toList.take (n * 1))[i]? = some (.slice (some ⟨rb i, 0, none⟩) n n) := by
      rw [h6]; unfold rowsL; rw [List.getElem?_map, List.getElem?_range hi]; rfl
    rwa [List.getElem?_take_of_lt (by omega)] at h7
/-- One row more. -/
theorem MkTab.put {w : World} {B n k : Nat} {v : Value} {rb : Nat → Nat} (ty : TypeId) (h : MkTab w B v rb n k) (hB : B ≤ w.heap.size) (hk : k + 1 ≤ 1000000) :
    ∃ A' c' w', (Builtin.append_ #[35, 35] ty #[v, .slice (some ⟨w.heap.size + 1, 0, none⟩) 1 1]).run Try.prog ((w.alloc (.cells (madeCells (Value.bool false).cells n) 4)).alloc (.cells #[.slice (some ⟨w.heap.size, 0, none⟩) n n] 134)) = .ok (.slice A' (k + 1) c') w' ∧
      (∃ rb', MkTab w' B (.slice A' (k + 1) c') rb' n (k + 1)) ∧ Below B w w' := by
  obtain ⟨i0, hi0, hz0, hz1, hz2⟩ := info_parts bools_info
  have hw1 : Below w.heap.size w (w.alloc (.cells (madeCells (Value.bool false).cells n) 4)) := (Below.refl _ w).alloc (Nat.le_refl _) _
  have hal : Below w.heap.size w ((w.alloc (.cells (madeCells (Value.bool false).cells n) 4)).alloc (.cells #[.slice (some ⟨w.heap.size, 0, none⟩) n n] 134)) := hw1.alloc hw1.size _
  have hbn : Blk (w.alloc (.cells (madeCells (Value.bool false).cells n) 4)) w.heap.size 4 (madeCells (Value.bool false).cells n) := Blk.new w _ _
  have hs1 : (w.alloc (.cells (madeCells (Value.bool false).cells n) 4)).heap.size = w.heap.size + 1 := by simp
  generalize w.alloc (.cells (madeCells (Value.bool false).cells n) 4) = w1 at hw1 hal hbn hs1 ⊢
  have hb2 := Blk.new w1 134 #[.slice (some ⟨w.heap.size, 0, none⟩) n n]
  have hbn2 := hbn.alloc (.cells #[.slice (some ⟨w.heap.size, 0, none⟩) n n] 134)
  rw [hs1] at hb2
  have hs2 : (w1.alloc (.cells #[.slice (some ⟨w.heap.size, 0, none⟩) n n] 134)).heap.size = w.heap.size + 2 := by simp [hs1]
  generalize w1.alloc (.cells #[.slice (some ⟨w.heap.size, 0, none⟩) n n] 134) = w2 at hal hb2 hbn2 hs2 ⊢
  have ho2 : w2.ownsRow B 134 1 v k (rowsL rb n k) := h.own.kept (row := none) ⟨hal.os, hal.tape, hal.output, hal.size, fun j hj _ => hal.block j hj⟩ (by cases v.ownBlock <;> simp)
  obtain ⟨v', w', h1, h2, h3, _, h5⟩ := run_append_own_at (P := Try.prog) w2 B 35 ty 134 i0 _ 1 24 Try.underlying35 hi0 hz0 hz1 hz2 rfl (by decide) v k (rowsL rb n k) ho2 ⟨w.heap.size + 1, 0, none⟩ 1 1 [.slice (some ⟨w.heap.size, 0, none⟩) n n] rfl
    (fun j u hu => by
      have := hb2.cell j
      have e : (⟨w.heap.size + 1, 0, none⟩ : Addr).add j = ⟨w.heap.size + 1, j, none⟩ := by unfold Addr.add; split <;> simp_all
      rw [e, this, ← hu, ← List.getElem?_toArray])
    (fun u hu => by obtain rfl := List.mem_singleton.1 hu; rfl) (by unfold maxLen; omega) (by omega) (by omega)
  rw [← rowsL_succ rb n k w.heap.size] at h2
  obtain ⟨A', c', e⟩ : ∃ A' c', v' = .slice A' (k + 1) c' := by
    rcases h2.2 with ⟨_, h0⟩ | ⟨g, cap, _, e, _⟩
    · omega
    · exact ⟨_, _, e⟩
  subst e
  -- the new row's block is none of the old ones, nor the outer row's
  have hvb : ∀ b, v.ownBlock = some b → b < w.heap.size := fun b hb => (h.own.lt b hb).2
  have hv' : ∀ b, (Value.slice A' (k + 1) c').ownBlock = some b → v.ownBlock = some b ∨ w.heap.size + 2 ≤ b := fun b hb => by
    rcases h5 with h5 | h5
    · left; rw [← h5]; exact hb
    · right
      rw [h5] at hb
      have := Option.some.inj hb
      omega
  have hkb : ∀ b, b < w2.heap.size → some b ≠ v.ownBlock → w'.heap[b]? = w2.heap[b]? := fun b hb hne => h3.block b hb hne
  refine ⟨A', c', w', h1, ⟨fun i => if i < k then rb i else w.heap.size, h2, fun i hi => ?_, fun i j hi hj e => ?_, fun i j hi hj => ?_⟩, ?_⟩
  · have hsz := h3.size
    by_cases hik : i < k
    · rw [if_pos hik]
      obtain ⟨a1, a2, a3⟩ := h.blk i hik
      refine ⟨a1, by omega, fun e => ?_⟩
      rcases hv' _ e.symm with h | h
      · exact a3 h.symm
      · omega
    · rw [if_neg hik]
      refine ⟨hB, by omega, fun e => ?_⟩
      rcases hv' _ e.symm with h | h
      · have := hvb _ h; omega
      · omega
  · by_cases hik : i < k <;> by_cases hjk : j < k
    · rw [if_pos hik, if_pos hjk] at e; exact h.inj i j hik hjk e
    · rw [if_pos hik, if_neg hjk] at e; have := (h.blk i hik).2.1; omega
    · rw [if_neg hik, if_pos hjk] at e; have := (h.blk j hjk).2.1; omega
    · omega
  · by_cases hik : i < k
    · rw [if_pos hik]
      obtain ⟨a1, a2, a3⟩ := h.blk i hik
      have e1 := hkb (rb i) (by omega) a3
      have e2 := hal.block (rb i) a2
      exact ⟨(World.cell?_of_block (a := ⟨rb i, j, none⟩) (e1.trans e2)).trans (h.cell i j hik hj).1, (World.frozen?_of_block (a := ⟨rb i, j, none⟩) (e1.trans e2)).trans (h.cell i j hik hj).2⟩
    · rw [if_neg hik]
      have e1 := hkb w.heap.size (by omega) (fun e => by have := hvb _ e.symm; omega)
      have hb3 : Blk w' w.heap.size 4 (madeCells (Value.bool false).cells n) := e1.trans hbn2
      exact ⟨by rw [hb3.cell]; exact made_bool n j hj, hb3.frozen j⟩
  · exact (hal.mono hB).trans ⟨h3.os, h3.tape, h3.output, h3.size, fun j hj => h3.block j (by omega) (fun e => by
      have := (h.own.lt j e.symm).1
      omega)⟩
/-- What a call that makes a table answers. -/
def TabPost (w : World) (n : Nat) (T : Nat → Nat → Bool) (e : Ending) (w' : World) : Prop := ∃ g rb c, e = .returned (.slice (some ⟨g, 0, none⟩) n c) ∧ n ≤ c ∧ Tab w' w.heap.size g rb n T ∧ Below w.heap.size w w'
set_option maxHeartbeats 1000000 in
set_option maxRecDepth 100000 in
theorem none_any (n : Nat) (w : World) (h0 : 0 < n) (hn : n ≤ 100000) : Calls Try.prog 58 #[.int .i64 (n : Int)] w (TabPost w n fun _ _ => false) := by
  have hm0 : MkTab (w.alloc (.cells #[] 134)) w.heap.size (.slice (some ⟨w.heap.size, 0, none⟩) 0 0) (fun _ => 0) n 0 :=
    ⟨World.ownsRow_made w #[] 0 (Nat.le_refl _) (by decide) rfl, fun i hi => by omega, fun i j hi => by omega, fun i j hi => by omega⟩
  have HM := Lib.hid hm0
  clear hm0
  go_enter Try.func58, Try.ntmps58
  go_wp2_with fail
  go_loopw [3, 4] (fun v i wr => ∃ (k : Nat) (A : Option Addr) (c : Nat) (rb : Nat → Nat), k ≤ n ∧ i = .int .i64 (k : Nat) ∧ v = .slice A k c ∧ MkTab wr w.heap.size (.slice A k c) rb n k ∧ Below w.heap.size w wr) (fun _ i _ => n - (intOf i).toNat)
  case atStart => exact ⟨0, _, _, _, Nat.zero_le _, rfl, rfl, HM.out, (Below.refl _ w).alloc (Nat.le_refl _) _⟩
  case round =>
    obtain ⟨k, A, c, rb, hk, rfl, rfl, hm, hb⟩ := hrel
    have hbs := hb.size
    by_cases hlt : k < n
    · have hlt' : (k : Int) < (n : Int) := by omega
      have hmk := fun W => make_bools W n (by omega)
      obtain ⟨A', c', w', hrun, ⟨rb', hm'⟩, hb'⟩ := hm.put 35 hbs (by omega)
      have HRUN := Lib.hid hrun
      have HM' := Lib.hid hm'
      clear hrun hm hm'
      go_wp2_with (at_builtin; refine wpList_append_run rfl (.tmp 11) (.tmp 14) 35 rfl _ _ _ rfl rfl HRUN.out ?_)
      go_roundw
      case rel => exact ⟨k + 1, A', c', rb', by omega, by go_num, rfl, HM'.out, hb.trans hb'⟩
      case measure => simp [intOf]; omega
    · obtain rfl : n = k := by omega
      have hlt' : ¬ (n : Int) < (n : Int) := by omega
      obtain ⟨g, e, hc, ht⟩ := hm.done h0
      subst e
      have HT := Lib.hid ht
      clear hm ht
      go_wp2
      go_ret
      exact ⟨g, rb, c, rfl, hc, HT.out, hb⟩
end Go.Proofs.Ytgcbcdbfeaepkaa
