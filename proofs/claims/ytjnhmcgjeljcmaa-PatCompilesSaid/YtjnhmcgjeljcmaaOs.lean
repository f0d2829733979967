/- Tables of bools in memory, each row in a block of its own; the reference's none and same. nfa's walk, made. nfa's Longest. nfa's Find, Steps. -/
import Derived.Test.YtjnhmcgjeljcmaaBt
import Derived.Test.YtjnhmcgjeljcmaaOp
namespace Go.Proofs.Ytjnhmcgjeljcmaa
open Go.RowKit Go.Maps

/-- A table: a slice of n rows of n bools; no block of it lies below B. -/
structure Tab (w : World) (B g : Nat) (rb : Nat → Nat) (n : Nat) (T : Nat → Nat → Bool) : Prop where
  low : B ≤ g
  lt : g < w.heap.size
  row : ∀ i, i < n → w.cell? ⟨g, i, none⟩ = some (.slice (some ⟨rb i, 0, none⟩) n n)
  blk : ∀ i, i < n → B ≤ rb i ∧ rb i < w.heap.size ∧ rb i ≠ g
  inj : ∀ i k, i < n → k < n → rb i = rb k → i = k
  cell : ∀ i j, i < n → j < n → w.cell? ⟨rb i, j, none⟩ = some (.bool (T i j)) ∧ w.frozen? ⟨rb i, j, none⟩ = false
section
variable {w w' : World} {B g n : Nat} {rb : Nat → Nat} {T T' : Nat → Nat → Bool}
theorem Tab.keep (h : Tab w B g rb n T) (hk : ∀ b, B ≤ b → b < w.heap.size → w'.heap[b]? = w.heap[b]?) (hs : w.heap.size ≤ w'.heap.size) : Tab w' B g rb n T :=
  ⟨h.low, Nat.lt_of_lt_of_le h.lt hs, fun i hi => (World.cell?_of_block (a := ⟨g, i, none⟩) (hk g h.low h.lt)).trans (h.row i hi),
    fun i hi => ⟨(h.blk i hi).1, Nat.lt_of_lt_of_le (h.blk i hi).2.1 hs, (h.blk i hi).2.2⟩, h.inj,
    fun i j hi hj => ⟨(World.cell?_of_block (a := ⟨rb i, j, none⟩) (hk _ (h.blk i hi).1 (h.blk i hi).2.1)).trans (h.cell i j hi hj).1, (World.frozen?_of_block (a := ⟨rb i, j, none⟩) (hk _ (h.blk i hi).1 (h.blk i hi).2.1)).trans (h.cell i j hi hj).2⟩⟩
theorem Tab.below (h : Tab w B g rb n T) (hb : Below w.heap.size w w') : Tab w' B g rb n T := h.keep (fun b _ hlt => hb.block b hlt) hb.size
theorem Tab.mono {B' : Nat} (h : Tab w B g rb n T) (hB : B' ≤ B) : Tab w B' g rb n T := ⟨Nat.le_trans hB h.low, h.lt, h.row, fun i hi => ⟨Nat.le_trans hB (h.blk i hi).1, (h.blk i hi).2⟩, h.inj, h.cell⟩
theorem Tab.congr (h : Tab w B g rb n T) (hT : ∀ i j, i < n → j < n → T' i j = T i j) : Tab w B g rb n T' := ⟨h.low, h.lt, h.row, h.blk, h.inj, fun i j hi hj => by rw [hT i j hi hj]; exact h.cell i j hi hj⟩
theorem Tab.drew (h : Tab w B g rb n T) : Tab w.drew B g rb n T := ⟨h.low, h.lt, h.row, h.blk, h.inj, h.cell⟩
theorem Tab.drewN (h : Tab w B g rb n T) (k : Nat) : Tab (w.drewN k) B g rb n T := ⟨h.low, h.lt, h.row, h.blk, h.inj, h.cell⟩
theorem Tab.alloc (h : Tab w B g rb n T) (o : Obj) : Tab (w.alloc o) B g rb n T := h.keep (fun b _ hlt => Below.heap_alloc w o b hlt) (by simp)
/-- One of its cells turned. -/
theorem Tab.set_ (h : Tab w B g rb n T) {i j : Nat} (hi : i < n) (hj : j < n) {v : Bool} (hT : ∀ a b, a < n → b < n → T' a b = if a = i ∧ b = j then v else T a b) : Tab (w.setCell ⟨rb i, j, none⟩ (.bool v)) B g rb n T' := by
  have hne := (h.blk i hi).2.2
  refine ⟨h.low, by simpa [World.setCell] using h.lt, fun a ha => ?_, fun a ha => ⟨(h.blk a ha).1, by simpa [World.setCell] using (h.blk a ha).2.1, (h.blk a ha).2.2⟩, h.inj, fun a b ha hb => ?_⟩
  · rw [World.cell?_of_block (a := ⟨g, a, none⟩) (Below.heap_setCell w _ _ g (Ne.symm hne))]
    exact h.row a ha
  · have hf : (w.setCell ⟨rb i, j, none⟩ (.bool v)).frozen? ⟨rb a, b, none⟩ = false := by
      rw [World.frozen?_setCell]
      exact (h.cell a b ha hb).2
    refine ⟨?_, hf⟩
    rw [hT a b ha hb]
    by_cases e : a = i
    · subst e
      by_cases e2 : b = j
      · subst e2
        rw [if_pos ⟨rfl, rfl⟩]
        exact World.cell?_setCell_same w _ _ (h.cell a b ha hb).1
      · rw [if_neg (fun x => e2 x.2), World.cell?_setCell_other]
        · exact (h.cell a b ha hb).1
        · intro x; injection x with _ x _; exact e2 x.symm
    · rw [if_neg (fun x => e x.1), World.cell?_of_block (a := ⟨rb a, b, none⟩) (Below.heap_setCell w _ _ _ (fun x => e (h.inj a i ha hi x)))]
      exact (h.cell a b ha hb).1
end

theorem bools_info : (Try.prog.info? 181).map (fun i => (i.zero, i.size, i.bytes)) = some (some (.slice none 0 0), 1, 24) := by kernel_rfl
theorem bool_info : (Try.prog.info? 4).map (fun i => (i.zero, i.size, i.bytes)) = some (some (.bool false), 1, 1) := by kernel_rfl
/-- A row of bools, made. -/
theorem make_bools (W : World) (n : Nat) (hn : n ≤ 1000000) : (Instr.makeSlice 181 (.int .i64 (n : Int)) (.int .i64 (n : Int))).run Try.prog W = .ok (.slice (some ⟨W.heap.size, 0, none⟩) n n) (W.alloc (.cells (madeCells (Value.bool false).cells n) 4)) := by
  obtain ⟨i0, hi0, hz0, hz1, hz2⟩ := info_parts bool_info
  have := run_make (P := Try.prog) W 181 4 i0 _ Try.underlying181 hi0 hz0 .i64 .i64 (n : Int) (n : Int) (by omega) (by omega) (by rw [hz2]; omega) (by omega)
  rw [this, Int.toNat_natCast, hz1, Nat.mul_one]
theorem made_bool (n j : Nat) (h : j < n) : (madeCells (Value.bool false).cells n)[j]? = some (.bool false) := by
  unfold madeCells
  rw [Array.getElem?_map, Array.getElem?_range, if_pos h]
  simp [Value.cells, Nat.mod_one]
/-- The rows of a table in the making. -/
def rowsL (rb : Nat → Nat) (n k : Nat) : List Value := (List.range k).map fun i => .slice (some ⟨rb i, 0, none⟩) n n
theorem rowsL_succ (rb : Nat → Nat) (n k x : Nat) : rowsL (fun i => if i < k then rb i else x) n (k + 1) = rowsL rb n k ++ [.slice (some ⟨x, 0, none⟩) n n] := by
  unfold rowsL
  rw [List.range_succ, List.map_append]
  congr 1
  · exact List.map_congr_left fun i hi => by simp only [if_pos (List.mem_range.1 hi)]
  · simp
/-- A table in the making: k rows. -/
structure MkTab (w : World) (B : Nat) (v : Value) (rb : Nat → Nat) (n k : Nat) : Prop where
  own : w.ownsRow B 181 1 v k (rowsL rb n k)
  blk : ∀ i, i < k → B ≤ rb i ∧ rb i < w.heap.size ∧ some (rb i) ≠ v.ownBlock
  inj : ∀ i j, i < k → j < k → rb i = rb j → i = j
  cell : ∀ i j, i < k → j < n → w.cell? ⟨rb i, j, none⟩ = some (.bool false) ∧ w.frozen? ⟨rb i, j, none⟩ = false
theorem MkTab.done {w : World} {B n c : Nat} {A : Option Addr} {rb : Nat → Nat} (h : MkTab w B (.slice A n c) rb n n) (hn : 0 < n) : ∃ g, A = some ⟨g, 0, none⟩ ∧ n ≤ c ∧ Tab w B g rb n fun _ _ => false := by
  rcases h.own.2 with ⟨_, h0⟩ | ⟨g, cap, cur, e, h1, h2, h3, h4, h5, h6⟩
  · omega
  · injection e with e1 e2 e3
    subst e1 e3
    refine ⟨g, rfl, h3, h1, (Array.getElem?_eq_some_iff.1 h2).1, fun i hi => ?_, fun i hi => ⟨(h.blk i hi).1, (h.blk i hi).2.1, fun e => (h.blk i hi).2.2 (by rw [e]; rfl)⟩, h.inj, h.cell⟩
    rw [cell_of_row w g i cur 181 (0, 0) h2, ← Array.getElem?_toList]
    have h7 : (cur.toList.take (n * 1))[i]? = some (.slice (some ⟨rb i, 0, none⟩) n n) := by
      rw [h6]; unfold rowsL; rw [List.getElem?_map, List.getElem?_range hi]; rfl
    rwa [List.getElem?_take_of_lt (by omega)] at h7
/-- One row more. -/
theorem MkTab.put {w : World} {B n k : Nat} {v : Value} {rb : Nat → Nat} (ty : TypeId) (h : MkTab w B v rb n k) (hB : B ≤ w.heap.size) (hk : k + 1 ≤ 1000000) :
    ∃ A' c' w', (Builtin.append_ #[159, 159] ty #[v, .slice (some ⟨w.heap.size + 1, 0, none⟩) 1 1]).run Try.prog ((w.alloc (.cells (madeCells (Value.bool false).cells n) 4)).alloc (.cells #[.slice (some ⟨w.heap.size, 0, none⟩) n n] 181)) = .ok (.slice A' (k + 1) c') w' ∧
      (∃ rb', MkTab w' B (.slice A' (k + 1) c') rb' n (k + 1)) ∧ Below B w w' := by
  obtain ⟨i0, hi0, hz0, hz1, hz2⟩ := info_parts bools_info
  have hw1 : Below w.heap.size w (w.alloc (.cells (madeCells (Value.bool false).cells n) 4)) := (Below.refl _ w).alloc (Nat.le_refl _) _
  have hal : Below w.heap.size w ((w.alloc (.cells (madeCells (Value.bool false).cells n) 4)).alloc (.cells #[.slice (some ⟨w.heap.size, 0, none⟩) n n] 181)) := hw1.alloc hw1.size _
  have hbn : Blk (w.alloc (.cells (madeCells (Value.bool false).cells n) 4)) w.heap.size 4 (madeCells (Value.bool false).cells n) := Blk.new w _ _
  have hs1 : (w.alloc (.cells (madeCells (Value.bool false).cells n) 4)).heap.size = w.heap.size + 1 := by simp
  generalize w.alloc (.cells (madeCells (Value.bool false).cells n) 4) = w1 at hw1 hal hbn hs1 ⊢
  have hb2 := Blk.new w1 181 #[.slice (some ⟨w.heap.size, 0, none⟩) n n]
  have hbn2 := hbn.alloc (.cells #[.slice (some ⟨w.heap.size, 0, none⟩) n n] 181)
  rw [hs1] at hb2
  have hs2 : (w1.alloc (.cells #[.slice (some ⟨w.heap.size, 0, none⟩) n n] 181)).heap.size = w.heap.size + 2 := by simp [hs1]
  generalize w1.alloc (.cells #[.slice (some ⟨w.heap.size, 0, none⟩) n n] 181) = w2 at hal hb2 hbn2 hs2 ⊢
  have ho2 : w2.ownsRow B 181 1 v k (rowsL rb n k) := h.own.kept (row := none) ⟨hal.os, hal.tape, hal.output, hal.size, fun j hj _ => hal.block j hj⟩ (by cases v.ownBlock <;> simp)
  obtain ⟨v', w', h1, h2, h3, _, h5⟩ := run_append_own_at (P := Try.prog) w2 B 159 ty 181 i0 _ 1 24 Try.underlying159 hi0 hz0 hz1 hz2 rfl (by decide) v k (rowsL rb n k) ho2 ⟨w.heap.size + 1, 0, none⟩ 1 1 [.slice (some ⟨w.heap.size, 0, none⟩) n n] rfl
    (fun j u hu => by
      have := hb2.cell j
      have e : (⟨w.heap.size + 1, 0, none⟩ : Addr).add j = ⟨w.heap.size + 1, j, none⟩ := by unfold Addr.add; split <;> simp_all
      rw [e, this, ← hu, ← List.getElem?_toArray])
    (fun u hu => by obtain rfl := List.mem_singleton.1 hu; rfl) (by unfold maxLen; omega) (by omega) (by omega)
  rw [← rowsL_succ rb n k w.heap.size] at h2
  obtain ⟨A', c', e⟩ : ∃ A' c', v' = .slice A' (k + 1) c' := by
    rcases h2.2 with ⟨_, h0⟩ | ⟨g, cap, _, e, _⟩
    · omega
    · exact ⟨_, _, e⟩
  subst e
  -- the new row's block is none of the old ones, nor the outer row's
  have hvb : ∀ b, v.ownBlock = some b → b < w.heap.size := fun b hb => (h.own.lt b hb).2
  have hv' : ∀ b, (Value.slice A' (k + 1) c').ownBlock = some b → v.ownBlock = some b ∨ w.heap.size + 2 ≤ b := fun b hb => by
    rcases h5 with h5 | h5
    · left; rw [← h5]; exact hb
    · right
      rw [h5] at hb
      have := Option.some.inj hb
      omega
  have hkb : ∀ b, b < w2.heap.size → some b ≠ v.ownBlock → w'.heap[b]? = w2.heap[b]? := fun b hb hne => h3.block b hb hne
  refine ⟨A', c', w', h1, ⟨fun i => if i < k then rb i else w.heap.size, h2, fun i hi => ?_, fun i j hi hj e => ?_, fun i j hi hj => ?_⟩, ?_⟩
  · have hsz := h3.size
    by_cases hik : i < k
    · rw [if_pos hik]
      obtain ⟨a1, a2, a3⟩ := h.blk i hik
      refine ⟨a1, by omega, fun e => ?_⟩
      rcases hv' _ e.symm with h | h
      · exact a3 h.symm
      · omega
    · rw [if_neg hik]
      refine ⟨hB, by omega, fun e => ?_⟩
      rcases hv' _ e.symm with h | h
      · have := hvb _ h; omega
      · omega
  · by_cases hik : i < k <;> by_cases hjk : j < k
    · rw [if_pos hik, if_pos hjk] at e; exact h.inj i j hik hjk e
    · rw [if_pos hik, if_neg hjk] at e; have := (h.blk i hik).2.1; omega
    · rw [if_neg hik, if_pos hjk] at e; have := (h.blk j hjk).2.1; omega
    · omega
  · by_cases hik : i < k
    · rw [if_pos hik]
      obtain ⟨a1, a2, a3⟩ := h.blk i hik
      have e1 := hkb (rb i) (by omega) a3
      have e2 := hal.block (rb i) a2
      exact ⟨(World.cell?_of_block (a := ⟨rb i, j, none⟩) (e1.trans e2)).trans (h.cell i j hik hj).1, (World.frozen?_of_block (a := ⟨rb i, j, none⟩) (e1.trans e2)).trans (h.cell i j hik hj).2⟩
    · rw [if_neg hik]
      have e1 := hkb w.heap.size (by omega) (fun e => by have := hvb _ e.symm; omega)
      have hb3 : Blk w' w.heap.size 4 (madeCells (Value.bool false).cells n) := e1.trans hbn2
      exact ⟨by rw [hb3.cell]; exact made_bool n j hj, hb3.frozen j⟩
  · exact (hal.mono hB).trans ⟨h3.os, h3.tape, h3.output, h3.size, fun j hj => h3.block j (by omega) (fun e => by
      have := (h.own.lt j e.symm).1
      omega)⟩
/-- What a call that makes a table answers. -/
def TabPost (w : World) (n : Nat) (T : Nat → Nat → Bool) (e : Ending) (w' : World) : Prop := ∃ g rb c, e = .returned (.slice (some ⟨g, 0, none⟩) n c) ∧ n ≤ c ∧ Tab w' w.heap.size g rb n T ∧ Below w.heap.size w w'
set_option maxHeartbeats 1000000 in
set_option maxRecDepth 100000 in
theorem none_any (n : Nat) (w : World) (h0 : 0 < n) (hn : n ≤ 100000) : Calls Try.prog 100 #[.int .i64 (n : Int)] w (TabPost w n fun _ _ => false) := by
  have hm0 : MkTab (w.alloc (.cells #[] 181)) w.heap.size (.slice (some ⟨w.heap.size, 0, none⟩) 0 0) (fun _ => 0) n 0 :=
    ⟨World.ownsRow_made w #[] 0 (Nat.le_refl _) (by decide) rfl, fun i hi => by omega, fun i j hi => by omega, fun i j hi => by omega⟩
  have HM := Lib.hid hm0
  clear hm0
  go_enter Try.func100, Try.ntmps100
  go_wp2_with fail
  go_loopw [3, 4] (fun v i wr => ∃ (k : Nat) (A : Option Addr) (c : Nat) (rb : Nat → Nat), k ≤ n ∧ i = .int .i64 (k : Nat) ∧ v = .slice A k c ∧ MkTab wr w.heap.size (.slice A k c) rb n k ∧ Below w.heap.size w wr) (fun _ i _ => n - (intOf i).toNat)
  case atStart => exact ⟨0, _, _, _, Nat.zero_le _, rfl, rfl, HM.out, (Below.refl _ w).alloc (Nat.le_refl _) _⟩
  case round =>
    obtain ⟨k, A, c, rb, hk, rfl, rfl, hm, hb⟩ := hrel
    have hbs := hb.size
    by_cases hlt : k < n
    · have hlt' : (k : Int) < (n : Int) := by omega
      have hmk := fun W => make_bools W n (by omega)
      obtain ⟨A', c', w', hrun, ⟨rb', hm'⟩, hb'⟩ := hm.put 159 hbs (by omega)
      have HRUN := Lib.hid hrun
      have HM' := Lib.hid hm'
      clear hrun hm hm'
      go_wp2_with (at_builtin; refine wpList_append_run rfl (.tmp 11) (.tmp 14) 159 rfl _ _ _ rfl rfl HRUN.out ?_)
      go_roundw
      case rel => exact ⟨k + 1, A', c', rb', by omega, by go_num, rfl, HM'.out, hb.trans hb'⟩
      case measure => simp [intOf]; omega
    · obtain rfl : n = k := by omega
      have hlt' : ¬ (n : Int) < (n : Int) := by omega
      obtain ⟨g, e, hc, ht⟩ := hm.done h0
      subst e
      have HT := Lib.hid ht
      clear hm ht
      go_wp2
      go_ret
      exact ⟨g, rb, c, rfl, hc, HT.out, hb⟩
end Go.Proofs.Ytjnhmcgjeljcmaa
namespace Go.Proofs.Ytjnhmcgjeljcmaa
open Go.RowKit Go.Maps

theorem int_infoN : (Try.prog.info? 3).map (fun i => (i.zero, i.size, i.bytes)) = some (some (.int .i64 0), 1, 8) := by kernel_rfl
/-- A row of ints, made. -/
theorem make_ints (W : World) (n : Nat) (hn : n ≤ 1000000) : (Instr.makeSlice 39 (.int .i64 (n : Int)) (.int .i64 (n : Int))).run Try.prog W = .ok (.slice (some ⟨W.heap.size, 0, none⟩) n n) (W.alloc (.cells (madeCells (Value.int .i64 0).cells n) 3)) := by
  obtain ⟨i0, hi0, hz0, hz1, hz2⟩ := info_parts int_infoN
  have := run_make (P := Try.prog) W 39 3 i0 _ Try.underlying39 hi0 hz0 .i64 .i64 (n : Int) (n : Int) (by omega) (by omega) (by rw [hz2]; omega) (by omega)
  rw [this, Int.toNat_natCast, hz1, Nat.mul_one]
theorem made_ints (n : Nat) : madeCells (Value.int .i64 0).cells n = ((List.replicate n 0).map intV).toArray := by
  apply Array.ext'
  apply List.ext_getElem?
  intro j
  rw [Array.getElem?_toList]
  unfold madeCells
  rw [Array.getElem?_map]
  by_cases h : j < n
  · rw [Array.getElem?_range, if_pos h]
    simp [Value.cells, Nat.mod_one, h, intV]
  · rw [Array.getElem?_range, if_neg h]
    simp [h]
/-- A walk that has not begun. -/
def ws0 (n : Nat) : WS := ⟨List.replicate n 0, [], false, 0, 0⟩
theorem build_walk (W : World) (pp qb n : Nat) : (Instr.build 157 #[(0, .pointer (some ⟨pp, 0, none⟩)), (1, .slice (some ⟨qb, 0, none⟩) n n)]).run Try.prog W = .ok (.agg #[.pointer (some ⟨pp, 0, none⟩), .slice (some ⟨qb, 0, none⟩) n n, .slice none 0 0, .slice none 0 0, .bool false, .int .i64 0, .int .i64 0, .slice none 0 0]) W := by kernel_rfl
set_option maxHeartbeats 1000000 in
set_option maxRecDepth 100000 in
theorem walk_any {w : World} {X : Nat → Prop} {pp : Nat} {start steps : Int} {S : List St} (hm : Mach w X pp start steps S) (hS : S.length ≤ 100000) (hSl : 0 < S.length) :
    Calls Try.prog 73 #[.pointer (some ⟨pp, 0, none⟩)] w (fun e w' => ∃ (wp : Nat) (Z : Nat → Prop), e = .returned (.pointer (some ⟨wp, 0, none⟩)) ∧ Wk w' Z wp pp (.slice none 0 0) (ws0 S.length) [] ∧ (∀ j, Z j → w.heap.size ≤ j) ∧ Below w.heap.size w w') := by
  obtain ⟨sb, cS, p0, -, -, -, hXsb, hXpp, hsp, cS1, cS2, hrd⟩ := hm.read hSl
  have hmk := fun W => make_ints W S.length (by omega)
  have hbw := fun W => build_walk W pp w.heap.size S.length
  go_enter Try.func73, Try.ntmps73
  go_wp2
  go_ret
  refine ⟨w.heap.size + 1, ZX (w.heap.size + 1) w.heap.size (.slice none 0 0) (.slice none 0 0), rfl, ⟨w.heap.size, .slice none 0 0, .slice none 0 0, ⟨?_, ?_, ?_, ?_, by omega, (fun b h => nomatch h), fun b h => nomatch h⟩, fun _ => Iff.rfl⟩, fun j hj => ?_, ?_⟩
  · have := Blk.new (w.alloc (.cells (madeCells #[Value.int IntKind.i64 0] S.length) 3)) 157 #[.pointer (some ⟨pp, 0, none⟩), .slice (some ⟨w.heap.size, 0, none⟩) S.length S.length, .slice none 0 0, .slice none 0 0, .bool false, .int .i64 0, .int .i64 0, .slice none 0 0]
    simpa [ws0, intV] using this
  · have h1 := Blk.new w 3 (madeCells #[Value.int IntKind.i64 0] S.length)
    have h2 := (Below.heap_alloc (w.alloc (.cells (madeCells #[Value.int IntKind.i64 0] S.length) 3)) (.cells #[.pointer (some ⟨pp, 0, none⟩), .slice (some ⟨w.heap.size, 0, none⟩) S.length S.length, .slice none 0 0, .slice none 0 0, .bool false, .int .i64 0, .int .i64 0, .slice none 0 0] 157) w.heap.size (by simp)).trans h1
    show _ = _
    rw [h2]
    exact congrArg (fun x => some (Obj.cells x 3)) (made_ints S.length)
  · exact ⟨rfl, .inl ⟨rfl, rfl⟩⟩
  · exact ⟨rfl, .inl ⟨rfl, rfl⟩⟩
  · rcases hj with rfl | rfl | h | h
    · omega
    · exact Nat.le_refl _
    · exact nomatch h
    · exact nomatch h
  · exact ((Below.refl _ w).alloc (Nat.le_refl _) _).alloc (by simp) _
end Go.Proofs.Ytjnhmcgjeljcmaa
namespace Go.Proofs.Ytjnhmcgjeljcmaa
open Go.RowKit Go.Maps

/-- What Longest answers. -/
def LongR (S : List St) (s : List UInt8) (start : Nat) (frm r : Int) : Prop :=
  ((frm < 0 ∨ (s.length : Int) < frm) ∧ r = -1) ∨ ∃ f : Nat, frm = (f : Nat) ∧ f ≤ s.length ∧ ((r = -1 ∧ ∀ k, k ≤ s.length → ¬ Rch S s (start, f) (0, k)) ∨ ∃ t : Nat, r = (t : Nat) ∧ t ≤ s.length ∧ Rch S s (start, f) (0, t) ∧ ∀ k, t < k → k ≤ s.length → ¬ Rch S s (start, f) (0, k))
/-- What a call leaves of a machine. -/
def MLeft (w : World) (X : Nat → Prop) (pp : Nat) (start : Int) (S : List St) (n : Nat) (w' : World) : Prop :=
  ∃ steps : Nat, steps ≤ n * S.length ∧ Mach w' X pp start (steps : Nat) S ∧ Kept (fun j => j = pp) w w'
def LongPost (w : World) (X : Nat → Prop) (pp start : Nat) (S : List St) (s : List UInt8) (frm : Int) (e : Ending) (w' : World) : Prop :=
  ∃ r : Int, e = .returned (.int .i64 r) ∧ LongR S s start frm r ∧ MLeft w X pp (start : Nat) S s.length w'
theorem WkS.of {w : World} {Z : Nat → Prop} {wp pp : Nat} {W : WS} (h : Wk w Z wp pp (.slice none 0 0) W []) : WkS w Z wp pp W :=
  ⟨Z, _, 0, [], h, ⟨rfl, .inl ⟨rfl, rfl⟩⟩, (fun _ h => nomatch h), fun _ => ⟨fun h => h.elim id (fun h => nomatch h), .inl⟩⟩
theorem WkS.keep {w w' : World} {Z : Nat → Prop} {wp pp : Nat} {W : WS} (h : WkS w Z wp pp W) (hk : ∀ b, Z b → b < w.heap.size → w'.heap[b]? = w.heap[b]?) : WkS w' Z wp pp W := by
  obtain ⟨Zr, v3, k, xs, h1, h2, h3, h4⟩ := h
  exact ⟨Zr, v3, k, xs, h1.keep fun b hb hl => hk b ((h4 b).1 (.inl hb)) hl, row_keep h2 fun b hb => hk b ((h4 b).1 (.inr hb)) (h2.lt b hb).2, h3, h4⟩
/-- A walk's cells. -/
theorem WkS.read {w : World} {Z : Nat → Prop} {wp pp : Nat} {W : WS} (h : WkS w Z wp pp W) : ∃ A c, w.cell? ⟨wp, 2, none⟩ = some (.slice A W.held.length c) ∧ w.cell? ⟨wp, 4, none⟩ = some (.bool W.found) ∧ w.cell? ⟨wp, 5, none⟩ = some (.int .i64 (W.frm : Nat)) ∧ w.cell? ⟨wp, 6, none⟩ = some (.int .i64 (W.to : Nat)) ∧ w.cell? ⟨wp, 0, none⟩ = some (.pointer (some ⟨pp, 0, none⟩)) ∧ Z wp ∧ W.held.length ≤ c := by
  obtain ⟨Zr, v3, k, xs, ⟨qb, vh, vu, h1, h2⟩, -, -, h4⟩ := h
  obtain ⟨A, c, rfl, hc, -⟩ := row_form h1.held
  obtain ⟨t0, t1, t2, t3, t4, t5, t6, -⟩ := wk_cells h1.top
  exact ⟨A, c, t2, t4, t5, t6, t0, (h4 wp).1 (.inl ((h2 wp).1 (.inl rfl))), hc⟩
/-- Reach, the spare row kept. -/
theorem reach_all {w : World} {X Z : Nat → Prop} {wp pp : Nat} {start steps : Int} {S : List St} {W : WS} (hm : Mach w X pp start steps S) (hok : MOk S) (hwk : WkS w Z wp pp W) (hd : ∀ j, X j → ¬ Z j) (hsl : W.seen.length = S.length)
    (first frm at_ : Nat) (hf : first < S.length) (hat : at_ ≤ 1000000000000) (hfr : frm ≤ 1000000000000) (he : edgesM S ≤ 100000) (hS : S.length ≤ 100000) (hhl : W.held.length ≤ 100000)
    (hc : ∀ q r : Nat, W.seen[q]? = some (at_ + 1) → Fk S q r → W.seen[r]? = some (at_ + 1)) :
    Calls Try.prog 74 #[.pointer (some ⟨wp, 0, none⟩), .int .i64 (first : Nat), .int .i64 (frm : Nat), .int .i64 (at_ : Nat)] w (fun e w' => e = .returned (.tuple #[]) ∧ ∃ Z' W', WkS w' Z' wp pp W' ∧ ROut S first frm at_ W W' ∧ (∀ j, Z' j → Z j ∨ w.heap.size ≤ j) ∧ Kept Z w w' ∧ Mach w' X pp start steps S) := by
  obtain ⟨Zr, v3, k, xs, h1, h2, h3, h4⟩ := hwk
  have hXl : ∀ j, X j → j < w.heap.size := fun j hj => hm.old hj
  refine (reach_any hm hok h1 (fun j hj hz => hd j hj ((h4 j).1 (.inl hz))) hsl first frm at_ hf hat hfr he hS hhl hc).mono ?_
  rintro e w' ⟨rfl, Z', W', g1, g2, g3, g4⟩
  refine ⟨rfl, fun j => Z' j ∨ v3.ownBlock = some j, W', ⟨Z', v3, k, xs, g1, row_keep h2 fun b hb => g4.block b (h2.lt b hb).2 (h3 b hb), fun b hb hz => ?_, fun _ => Iff.rfl⟩, g2, fun j hj => ?_, g4.mono fun j _ hz => (h4 j).1 (.inl hz), hm.keep fun b hb hl => g4.block b hl fun hz => hd b hb ((h4 b).1 (.inl hz))⟩
  · rcases g3 b hz with hz | hz
    · exact h3 b hb hz
    · have := (h2.lt b hb).2; omega
  · rcases hj with hj | hj
    · rcases g3 j hj with hz | hz
      · exact .inl ((h4 j).1 (.inl hz))
      · exact .inr hz
    · exact .inl ((h4 j).1 (.inr hj))
end Go.Proofs.Ytjnhmcgjeljcmaa
namespace Go.Proofs.Ytjnhmcgjeljcmaa
open Go.RowKit Go.Maps

/-- What Find answers. -/
def FindR (S : List St) (s : List UInt8) (start : Nat) (a b : Int) (ok : Bool) : Prop :=
  (ok = false ∧ a = 0 ∧ b = 0 ∧ ∀ f k, k ≤ s.length → ¬ Rch S s (start, f) (0, k)) ∨
  (ok = true ∧ ∃ f t : Nat, a = (f : Nat) ∧ b = (t : Nat) ∧ f ≤ t ∧ t ≤ s.length ∧ Rch S s (start, f) (0, t) ∧ (∀ k, t < k → k ≤ s.length → ¬ Rch S s (start, f) (0, k)) ∧ ∀ g, g < f → ∀ k, k ≤ s.length → ¬ Rch S s (start, g) (0, k))
def FindPost (w : World) (X : Nat → Prop) (pp start : Nat) (S : List St) (s : List UInt8) (e : Ending) (w' : World) : Prop :=
  ∃ (a b : Int) (ok : Bool), e = .returned (.tuple #[.int .i64 a, .int .i64 b, .bool ok]) ∧ FindR S s start a b ok ∧ MLeft w X pp (start : Nat) S s.length w'
theorem HInv.same {M : List St} {s : List UInt8} {P Q : Nat → Prop} {start at_ : Nat} {W : WS} (h : HInv M s start P at_ W) (hq : ∀ f, P f ↔ Q f) : HInv M s start Q at_ W := (funext fun f => propext (hq f) : P = Q) ▸ h
set_option maxHeartbeats 4000000 in
set_option maxRecDepth 100000 in
theorem find_any {w : World} {X : Nat → Prop} {pp start : Nat} {steps0 : Int} {S : List St} (hm : Mach w X pp (start : Nat) steps0 S) (hok : MOk S) (hst : start < S.length) (s : ByteArray) (hs : s.size ≤ 100000000) (he : edgesM S ≤ 100000) (hS : S.length ≤ 100000) :
    Calls Try.prog 44 #[.pointer (some ⟨pp, 0, none⟩), .string s] w (FindPost w X pp start S s.data.toList) := by
  have hsl : s.data.toList.length = s.size := rfl
  have hSl : 0 < S.length := hok.1
  have hXl : ∀ j, X j → j < w.heap.size := fun j hj => hm.old hj
  have hXpp := hm.at_
  obtain ⟨sb, cS, p0, p1, p2, pf2, -, -, -, -, -, -⟩ := hm.read hSl
  have hm1 := hm.setSteps (steps' := (0 : Int))
  have hk1 : Kept (fun j => j = pp) w (w.setCell ⟨pp, 2, none⟩ (.int .i64 0)) := (Kept.refl (fun j => j = pp) w).set_ (p := ⟨pp, 2, none⟩) (.inl rfl) _
  have HM1 := Lib.hid hm1
  have HK1 := Lib.hid hk1
  have HOK := Lib.hid hok
  have HSL := Lib.hid hsl
  clear hm hm1 hk1 hok hsl p0
  have HW := Lib.hid (walk_any HM1.out hS hSl)
  go_enter Try.func44, Try.ntmps44
  go_wp2_with fail
  refine HW.out.mono ?_
  rintro e w2 ⟨wp, Z, rfl, hwk, hz, hb⟩
  have hz2 : ∀ j, Z j → w.heap.size ≤ j := fun j hj => by have := hz j hj; simpa [World.setCell] using this
  have hm2 := HM1.out.below hb
  have hk2 : Kept (fun j => j = pp) w w2 := HK1.out.trans (kept_below hb) (fun j hj => .inl hj)
  have hdis : ∀ j, X j → ¬ Z j := fun j hj hzj => by have := hXl j hj; have := hz2 j hzj; omega
  have q1 : w2.cell? ⟨pp, 1, none⟩ = some (.int .i64 (start : Nat)) := by obtain ⟨_, _, _, h, _⟩ := hm2.read hSl; exact h
  have HI0 := Lib.hid (HInv.begin_ (M := S) (s := s.data.toList) (start := start) (at_ := 0) S.length rfl)
  have HRE := Lib.hid (show Calls Try.prog 74 #[.pointer (some ⟨wp, 0, none⟩), .int .i64 (start : Nat), .int .i64 0, .int .i64 0] w2 _ from reach_all hm2 HOK.out (WkS.of hwk) hdis HI0.out.len start 0 0 hst (by omega) (by omega) he hS (Nat.zero_le _) HI0.out.clo)
  have HZ2 := Lib.hid hz2
  have HK2 := Lib.hid hk2
  clear hwk hz hz2 hb hm2 hk2 HM1 HK1 HW p1 p2 pf2
  go_wp2_with fail
  refine HRE.out.mono ?_
  rintro e w3 ⟨rfl, Z3, W3, hwk3, hro, hz3, hk3, hm3⟩
  have HWK3 := Lib.hid hwk3
  have HM3 := Lib.hid hm3
  have HI3 := Lib.hid ((HI0.out.starts HOK.out hst (fun f h => h.elim) rfl hro).same (Q := fun g => g ≤ 0) (fun f => ⟨fun h => h.elim False.elim fun e => by omega, fun h => .inr (by omega)⟩))
  have HN3 := Lib.hid (show W3.found = false → W3.frm = 0 ∧ W3.to = 0 from fun hf => by
    rcases hro.over with ⟨_, _, h, _⟩ | ⟨_, _, h1, h2⟩
    · rw [hf] at h; cases h
    · exact ⟨h1, h2⟩)
  have HZ3 := Lib.hid (show ∀ j, Z3 j → w.heap.size ≤ j from fun j hj => by
    rcases hz3 j hj with h | h
    · exact HZ2.out j h
    · exact Nat.le_trans HK2.out.size h)
  have HK3 := Lib.hid (HK2.out.trans hk3 (fun j hj => .inr (HZ2.out j hj)))
  clear hwk3 hro hz3 hk3 hm3 HRE HI0 HZ2 HK2 hdis q1
  go_wp2_with fail
  go_loopw [8] (fun vi wr => ∃ (i : Nat) (W : WS) (Z : Nat → Prop) (st a : Nat), a ≤ i ∧ i ≤ s.size ∧ vi = .int .i64 (i : Nat) ∧ WkS wr Z wp pp W ∧ Mach wr X pp (start : Nat) (st : Nat) S ∧ HInv S s.data.toList start (fun g => g ≤ a) i W ∧ (W.found = false → a = i) ∧ (W.found = false → W.frm = 0 ∧ W.to = 0) ∧ st ≤ i * S.length ∧ (∀ j, Z j → w.heap.size ≤ j) ∧ Kept (fun j => j = pp) w wr) (fun vi _ => s.size - (intOf vi).toNat)
  case atStart => exact ⟨0, W3, Z3, 0, 0, Nat.le_refl _, Nat.zero_le _, rfl, HWK3.out, HM3.out, HI3.out, fun _ => rfl, HN3.out, Nat.zero_le _, HZ3.out, HK3.out⟩
  case round =>
    clear HWK3 HM3 HI3 HZ3 HK3 HN3
    obtain ⟨i, W, Z, st, a, hai, his, rfl, hwk, hmr, hI, haf, hnf, hstp, hz, hkp⟩ := hrel
    obtain ⟨A, c, t2, t4, t5, t6, t0, hZw, hcA⟩ := hwk.read
    have HI := Lib.hid hI
    have HM := Lib.hid hmr
    have HWK := Lib.hid hwk
    have HZ := Lib.hid hz
    have HKP := Lib.hid hkp
    have HAF := Lib.hid haf
    have HNF := Lib.hid hnf
    clear hwk hmr hI hz hkp haf hnf
    by_cases hgo : i < s.size ∧ 0 < W.held.length
    · obtain ⟨hlt, hh⟩ := hgo
      have hlt' : (i : Int) < (s.size : Int) := by omega
      have hh' : (0 : Int) < (W.held.length : Int) := by omega
      have hi0 : (0 : Int) ≤ (i : Int) := by omega
      have hwr : IntKind.i64.wrap ((i : Int) + 1) = (i : Int) + 1 := by rw [IntKind.wrap_i64]; omega
      have hbt := byteAt_eq s i hlt
      have hsum : st ≤ 100000000 * 100000 := Nat.le_trans hstp (Nat.mul_le_mul (by omega) hS)
      have HME := Lib.hid (meet_any HM.out HOK.out HWK.out (fun j hj hzj => by have := hXl j hj; have := HZ.out j hzj; omega) HI.out (fun g hg => Nat.le_trans hg hai) (byteAt s i) (by
        show s.data.toList[i]? = some (byteAt s i)
        rw [← hbt]; exact List.getElem?_eq_getElem (by show i < s.size; exact hlt)) (by omega) he hS (by omega))
      have HSTP := Lib.hid hstp
      clear hstp hsum
      go_wp2_with fail
      refine HME.out.mono ?_
      rintro e w4 ⟨rfl, Z4, W4, st4, hwk4, hm4, hi4, hs4, hz4, hk4, hun⟩
      rw [Int.toNat_natCast] at hi4
      obtain ⟨A4, c4, -, u4, -, -, -, -, -⟩ := hwk4.read
      have HWK4 := Lib.hid hwk4
      have HM4 := Lib.hid hm4
      have HI4 := Lib.hid hi4
      have HS4 := Lib.hid (show st4 ≤ (i + 1) * S.length by rw [Nat.succ_mul]; have := HSTP.out; omega)
      have HZ4 := Lib.hid (show ∀ j, Z4 j → w.heap.size ≤ j from fun j hj => by
        rcases hz4 j hj with h | h
        · exact HZ.out j h
        · exact Nat.le_trans HKP.out.size h)
      have HK4 := Lib.hid (HKP.out.trans hk4 (fun j hj => by
        rcases hj with hj | hj
        · exact .inr (HZ.out j hj)
        · exact .inl hj))
      have HUN := Lib.hid hun
      clear hwk4 hm4 hi4 hs4 hz4 hk4 HME hun
      cases hfo : W4.found
      · rw [hfo] at u4
        obtain ⟨hvf, hfr, hto⟩ := HUN.out hfo
        have hae := HAF.out hvf
        have hfz := HNF.out hvf
        have q1 : w4.cell? ⟨pp, 1, none⟩ = some (.int .i64 (start : Nat)) := by obtain ⟨_, _, _, h, _⟩ := HM4.out.read hSl; exact h
        have HRE := Lib.hid (show Calls Try.prog 74 #[.pointer (some ⟨wp, 0, none⟩), .int .i64 (start : Nat), .int .i64 ((i : Int) + 1), .int .i64 ((i : Int) + 1)] w4 _ from reach_all HM4.out HOK.out HWK4.out (fun j hj hzj => by have := hXl j hj; have := HZ4.out j hzj; omega) HI4.out.len start (i + 1) (i + 1) hst (by omega) (by omega) he hS (Nat.le_trans HI4.out.few hS) HI4.out.clo)
        have HFZ := Lib.hid (show W4.frm = 0 ∧ W4.to = 0 from ⟨hfr.trans hfz.1, hto.trans hfz.2⟩)
        have HAE := Lib.hid hae
        have HFO := Lib.hid hfo
        clear hfr hto hfz hae hfo hvf
        go_wp2_with fail
        refine HRE.out.mono ?_
        rintro e w5 ⟨rfl, Z5, W5, hwk5, hro, hz5, hk5, hm5⟩
        have HWK5 := Lib.hid hwk5
        have HM5 := Lib.hid hm5
        have HI5 := Lib.hid ((HI4.out.starts HOK.out hst (fun f hf => by have := HAE.out; omega) HFO.out hro).same (Q := fun g => g ≤ i + 1) (fun f => ⟨fun h => by have := HAE.out; omega, fun h => by have := HAE.out; omega⟩))
        have HN5 := Lib.hid (show W5.found = false → W5.frm = 0 ∧ W5.to = 0 from fun hf => by
          rcases hro.over with ⟨_, _, h, _⟩ | ⟨_, _, h1, h2⟩
          · rw [hf] at h; cases h
          · exact ⟨h1.trans HFZ.out.1, h2.trans HFZ.out.2⟩)
        have HZ5 := Lib.hid (show ∀ j, Z5 j → w.heap.size ≤ j from fun j hj => by
          rcases hz5 j hj with h | h
          · exact HZ4.out j h
          · exact Nat.le_trans HK4.out.size h)
        have HK5 := Lib.hid (HK4.out.trans hk5 (fun j hj => .inr (HZ4.out j hj)))
        clear hwk5 hro hz5 hk5 hm5 HRE q1
        go_wp2_with fail
        go_roundw
        case rel => exact ⟨i + 1, W5, Z5, st4, i + 1, Nat.le_refl _, hlt, by go_num, HWK5.out, HM5.out, HI5.out, fun _ => rfl, HN5.out, HS4.out, HZ5.out, HK5.out⟩
        case measure => simp [intOf]; omega
      · rw [hfo] at u4
        have HFO := Lib.hid hfo
        clear hfo
        go_wp2_with fail
        go_roundw
        case rel => exact ⟨i + 1, W4, Z4, st4, a, by omega, hlt, by go_num, HWK4.out, HM4.out, HI4.out, (fun h => by rw [HFO.out] at h; cases h), (fun h => by rw [HFO.out] at h; cases h), HS4.out, HZ4.out, HK4.out⟩
        case measure => simp [intOf]; omega
    · have hend : i = s.size ∨ W.held = [] := by
        by_cases hlt : i < s.size
        · right; apply List.eq_nil_of_length_eq_zero; omega
        · left; omega
      obtain ⟨l1, l2⟩ := find_end (n := s.size) HI.out HAF.out hai his hend
      have HLE := Lib.hid (show MLeft w X pp (start : Nat) S s.data.toList.length wr from ⟨st, by rw [HSL.out]; exact Nat.le_trans hstp (Nat.mul_le_mul his (Nat.le_refl _)), HM.out, HKP.out⟩)
      have HFIN := Lib.hid (show ∀ n, FindPost w X pp start S s.data.toList (.returned (.tuple #[.int .i64 (W.frm : Nat), .int .i64 (W.to : Nat), .bool W.found])) (wr.drewN n) from fun n => by
        refine ⟨_, _, _, rfl, ?_, st, HLE.out.elim (fun _ _ => by rw [HSL.out]; exact Nat.le_trans hstp (Nat.mul_le_mul his (Nat.le_refl _))), HM.out.keep fun _ _ _ => rfl, HKP.out.drewN n⟩
        cases hfo : W.found with
        | false => obtain ⟨z1, z2⟩ := HNF.out hfo; exact .inl ⟨rfl, by rw [z1]; rfl, by rw [z2]; rfl, l1 hfo⟩
        | true => obtain ⟨z1, z2, z3, z4, z5⟩ := l2 hfo; exact .inr ⟨rfl, W.frm, W.to, rfl, rfl, z1, z2, z3, z4, z5⟩)
      clear l1 l2 hstp HI HM HWK HZ HKP hend HAF HNF HLE
      by_cases hlt : i < s.size
      · have hh : ¬ (0 : Int) < (W.held.length : Int) := by omega
        have hlt' : (i : Int) < (s.size : Int) := by omega
        go_wp2_with fail
        go_quiet (fail)
        try go_wp2
        go_ret3
        exact HFIN.out _
      · obtain rfl : s.size = i := by omega
        have hlt' : ¬ (s.size : Int) < (s.size : Int) := by omega
        go_wp2_with fail
        go_quiet (fail)
        try go_wp2
        go_ret3
        exact HFIN.out _
end Go.Proofs.Ytjnhmcgjeljcmaa
