/- Bytes in memory with all their capacity, wherever in a block they begin: append, slices of them, bytes.Clone. -/
import Derived.Test.YtgcbcdbfeaepkaaBt
import Derived.Deep.AppendSrc
import Derived.Deep.Upon
namespace Go.Proofs.Ytgcbcdbfeaepkaa
open Go.RowKit Go.Maps

/-- A slice of bytes with its spare cells, which are there and not frozen. -/
structure RowAt (w : World) (A : Option Addr) (n c : Nat) (bs : List UInt8) : Prop where
  len : bs.length = n
  le : n ≤ c
  max : c ≤ maxLen
  cells : (A = none ∧ c = 0) ∨ ∃ g o, A = some ⟨g, o, none⟩ ∧ g < w.heap.size ∧ (∀ i z, bs[i]? = some z → w.cell? ⟨g, o + i, none⟩ = some (u8V z)) ∧ ∀ j, j < c → (w.cell? ⟨g, o + j, none⟩).isSome = true ∧ w.frozen? ⟨g, o + j, none⟩ = false
/-- The slice's block. -/
def InB (A : Option Addr) (j : Nat) : Prop := ∃ o, A = some ⟨j, o, none⟩
section
variable {w w' : World} {A B : Option Addr} {n c m d : Nat} {bs xs : List UInt8}
theorem RowAt.bytes (h : RowAt w A n c bs) : BytesAt w A n bs :=
  ⟨h.len, fun hn => by
    rcases h.cells with ⟨_, hc⟩ | ⟨g, o, e, hg, hc, _⟩
    · have := h.le; omega
    · exact ⟨g, o, e, hg, hc⟩⟩
theorem RowAt.nil (w : World) : RowAt w none 0 0 [] := ⟨rfl, Nat.le_refl _, Nat.zero_le _, .inl ⟨rfl, rfl⟩⟩
theorem RowAt.keep (h : RowAt w A n c bs) (hb : ∀ b, InB A b → b < w.heap.size → w'.heap[b]? = w.heap[b]?) (hs : w.heap.size ≤ w'.heap.size) : RowAt w' A n c bs :=
  ⟨h.len, h.le, h.max, h.cells.imp id (fun ⟨g, o, e, hg, hc, hf⟩ => ⟨g, o, e, Nat.lt_of_lt_of_le hg hs, fun i z hi => (World.cell?_of_block (a := ⟨g, o + i, none⟩) (hb g ⟨o, e⟩ hg)).trans (hc i z hi),
    fun j hj => ⟨by rw [World.cell?_of_block (a := ⟨g, o + j, none⟩) (hb g ⟨o, e⟩ hg)]; exact (hf j hj).1, (World.frozen?_of_block (a := ⟨g, o + j, none⟩) (hb g ⟨o, e⟩ hg)).trans (hf j hj).2⟩⟩)⟩
theorem RowAt.kept {X : Nat → Prop} (h : RowAt w A n c bs) (hk : Kept X w w') (hX : ∀ b, InB A b → ¬ X b) : RowAt w' A n c bs := h.keep (fun b hb hlt => hk.block b hlt (hX b hb)) hk.size
theorem RowAt.below (h : RowAt w A n c bs) (hb : Below w.heap.size w w') : RowAt w' A n c bs := h.keep (fun b _ hlt => hb.block b hlt) hb.size
theorem RowAt.alloc (h : RowAt w A n c bs) (o : Obj) : RowAt (w.alloc o) A n c bs := h.keep (fun b _ hlt => Below.heap_alloc w o b hlt) (by simp)
theorem RowAt.drewN (h : RowAt w A n c bs) (k : Nat) : RowAt (w.drewN k) A n c bs := ⟨h.len, h.le, h.max, h.cells⟩
theorem RowAt.drew (h : RowAt w A n c bs) : RowAt w.drew A n c bs := ⟨h.len, h.le, h.max, h.cells⟩
theorem RowAt.set_ (h : RowAt w A n c bs) {p : Addr} (hp : ¬ InB A p.block) (u : Value) : RowAt (w.setCell p u) A n c bs := h.keep (fun b hb _ => Below.heap_setCell w p u b (by rintro rfl; exact hp hb)) (by simp [World.setCell])
theorem RowAt.lt (h : RowAt w A n c bs) {b : Nat} (hb : InB A b) : b < w.heap.size := by
  obtain ⟨o, e⟩ := hb
  rcases h.cells with ⟨e2, _⟩ | ⟨g, o2, e2, hg, _⟩
  · rw [e] at e2; cases e2
  · rw [e] at e2; injection e2 with e2; injection e2 with e2 _ _; omega
/-- Its first k. -/
theorem RowAt.take (h : RowAt w A n c bs) {k : Nat} (hk : k ≤ n) : RowAt w A k c (bs.take k) :=
  ⟨by rw [List.length_take, h.len]; omega, by have := h.le; omega, h.max, h.cells.imp id (fun ⟨g, o, e, hg, hc, hf⟩ => ⟨g, o, e, hg, fun i z hi => hc i z (by
    have := (List.getElem?_eq_some_iff.1 hi).1
    rw [List.length_take] at this
    rw [List.getElem?_take_of_lt (by omega)] at hi
    exact hi), hf⟩)⟩
/-- Where a slice without its first k begins. -/
def behind (A : Option Addr) (c k : Nat) : Option Addr := if c = k then A else A.map (fun x => x.add k)
theorem RowAt.drop (h : RowAt w A n c bs) {k : Nat} (hk : k ≤ n) : RowAt w (behind A c k) (n - k) (c - k) (bs.drop k) := by
  have hle := h.le
  have hmx := h.max
  refine ⟨by rw [List.length_drop, h.len], by omega, by omega, ?_⟩
  rcases h.cells with ⟨rfl, rfl⟩ | ⟨g, o, rfl, hg, hc, hf⟩
  · left
    obtain rfl : k = 0 := by omega
    exact ⟨rfl, rfl⟩
  · right
    unfold behind
    by_cases e : c = k
    · rw [if_pos e]
      subst e
      refine ⟨g, o, rfl, hg, fun i z hi => ?_, fun j hj => by omega⟩
      have := (List.getElem?_eq_some_iff.1 hi).1
      rw [List.length_drop, h.len] at this
      omega
    · rw [if_neg e]
      refine ⟨g, o + k, by simp [Addr.add_mid], hg, fun i z hi => ?_, fun j hj => ?_⟩
      · rw [List.getElem?_drop] at hi
        rw [Nat.add_assoc]
        exact hc _ z hi
      · rw [Nat.add_assoc]
        exact hf (k + j) (by omega)
theorem RowAt.behind_in (hr : RowAt w A n c bs) {k j : Nat} (h : InB (behind A c k) j) : InB A j := by
  unfold behind at h
  split at h
  · exact h
  · rcases hr.cells with ⟨rfl, _⟩ | ⟨g, o, rfl, _⟩
    · obtain ⟨o, e⟩ := h; cases e
    · obtain ⟨o2, e⟩ := h
      simp only [Option.map_some, Addr.add_mid, Option.some.injEq, Addr.mk.injEq] at e
      exact ⟨o, by rw [e.1]⟩
theorem src_of (hx : BytesAt w B m xs) (d : Nat) : Src Try.prog 1 52 (.slice B m d) m (xs.map u8V) w := by
  obtain rfl := hx.1
  cases B with
  | none =>
    obtain rfl : xs = [] := List.eq_nil_of_length_eq_zero (by
      rcases Nat.eq_zero_or_pos xs.length with h0 | h0
      · exact h0
      · obtain ⟨b, o, e, _⟩ := hx.2 h0; cases e)
    exact Src.ofNil w Try.underlying52 d
  | some ad =>
    refine Src.ofSlice w Try.underlying52 ad xs.length d (xs.map u8V) (by simp) (fun j u hu => ?_) (fun u hu => by obtain ⟨x, _, rfl⟩ := List.mem_map.1 hu; rfl)
    obtain ⟨x, hx', rfl⟩ : ∃ x, xs[j]? = some x ∧ u8V x = u := by simpa using hu
    have hj : 0 < xs.length := by have := (List.getElem?_eq_some_iff.1 hx').1; omega
    obtain ⟨b, o, e, _, hc⟩ := hx.2 hj
    have e := Option.some.inj e
    subst e
    rw [Addr.add_mid]
    exact hc j x hx'
set_option maxHeartbeats 1000000 in
/-- append: behind what is there, or in a block of its own. -/
theorem row_append (ty : TypeId) (h : RowAt w A n c bs) (hx : BytesAt w B m xs) (hl : n + m ≤ 140737488355328) :
    ∃ A' c' w', (Builtin.append_ #[52, 52] ty #[.slice A n c, .slice B m d]).run Try.prog w = .ok (.slice A' (n + m) c') w' ∧ RowAt w' A' (n + m) c' (bs ++ xs) ∧ Kept (InB A) w w' ∧ (∀ j, InB A' j → InB A j ∨ w.heap.size ≤ j) := by
  obtain ⟨i0, hi0, hz0, hz1, hz2⟩ := info_parts byte_info
  have hs := src_of hx d
  have hle := h.le
  have hbl := h.len
  have hxl := hx.1
  have hs' : Src Try.prog i0.size 52 (.slice B m d) m (xs.map u8V) w := by rw [hz1]; exact hs
  rcases Nat.eq_zero_or_pos m with hm0 | hm0
  · subst hm0
    obtain rfl : xs = [] := List.eq_nil_of_length_eq_zero hxl
    refine ⟨A, c, w, run_append_nothing w 52 52 ty 5 i0 Try.underlying52 hi0 A n c hle _ hs', by simpa using h, Kept.refl _ _, fun j hj => .inl hj⟩
  · by_cases hroom : n + m ≤ c
    · rcases h.cells with ⟨_, hc0⟩ | ⟨g, o, rfl, hg, hc, hf⟩
      · omega
      · have hth : ∀ j, j < (xs.map u8V).length → (w.cell? ⟨g, o + n * i0.size + j, none⟩).isSome = true := fun j hj => by
          rw [hz1, Nat.mul_one, Nat.add_assoc]; exact (hf (n + j) (by simp at hj; omega)).1
        have hr := run_append_room_src (P := Try.prog) w 52 52 ty 5 i0 Try.underlying52 hi0 g o n c _ m (xs.map u8V) hs' hroom hth (fun j hj => by rw [hz1, Nat.mul_one, Nat.add_assoc]; exact (hf (n + j) (by simp at hj; omega)).2)
        rw [hz1, Nat.mul_one] at hr hth
        have hkb := World.keptBut_setCells g (may := fun p => p.block = g) (xs.map u8V) (o + n) w (fun _ _ => rfl)
        have hsz : (w.setCells g (o + n) (xs.map u8V)).heap.size = w.heap.size := by
          have : ∀ (vs : List Value) (o : Nat) (w : World), (w.setCells g o vs).heap.size = w.heap.size := by
            intro vs
            induction vs with
            | nil => intro o w; rfl
            | cons v vs ih => intro o w; show ((w.setCell ⟨g, o, none⟩ v).setCells g (o + 1) vs).heap.size = _; rw [ih]; simp [World.setCell]
          exact this _ _ _
        have htp : (w.setCells g (o + n) (xs.map u8V)).tape = w.tape := by
          have : ∀ (vs : List Value) (o : Nat) (w : World), (w.setCells g o vs).tape = w.tape := by
            intro vs
            induction vs with
            | nil => intro o w; rfl
            | cons v vs ih => intro o w; show ((w.setCell ⟨g, o, none⟩ v).setCells g (o + 1) vs).tape = _; rw [ih]; rfl
          exact this _ _ _
        refine ⟨_, _, _, hr, ⟨by rw [List.length_append, hbl, hxl], hroom, h.max, .inr ⟨g, o, rfl, by rw [hsz]; exact hg, fun i z hi => ?_, fun j hj => ⟨?_, ?_⟩⟩⟩, ⟨hkb.1, htp, hkb.2.1, by rw [hsz]; exact Nat.le_refl _, fun j hj hne => World.heap_setCells_other w g _ _ hj (fun e => hne ⟨o, by rw [e]⟩)⟩, fun j hj => .inl hj⟩
        · by_cases hi2 : i < n
          · rw [List.getElem?_append_left (by omega)] at hi
            rw [World.cell?_setCells_out g _ _ _ _ (fun _ _ => .inl (by show o + i < o + n; omega))]
            exact hc i z hi
          · rw [List.getElem?_append_right (by omega), hbl] at hi
            have hlt := (List.getElem?_eq_some_iff.1 hi).1
            have := World.cell?_setCells_in g (xs.map u8V) (o + n) w hth (i - n) (by simpa using hlt)
            rw [show o + n + (i - n) = o + i by omega] at this
            rw [this]
            have e2 := (List.getElem?_eq_some_iff.1 hi).2
            simp [e2]
        · by_cases hj2 : j < n ∨ n + m ≤ j
          · rw [World.cell?_setCells_out g _ _ _ _ (fun _ _ => by show o + j < o + n ∨ o + n + (xs.map u8V).length ≤ o + j; simp; omega)]
            exact (hf j hj).1
          · have := World.cell?_setCells_in g (xs.map u8V) (o + n) w hth (j - n) (by simp; omega)
            rw [show o + n + (j - n) = o + j by omega] at this
            rw [this]; rfl
        · rw [World.frozen?_setCells]; exact (hf j hj).2
    · have hold : (Builtin.firstCells i0.size n (.slice A n c)).run Try.prog w.drew = .ok (bs.map u8V).toArray w.drew := by
        have := (src_of (h.bytes.up (w' := w.drew) (fun _ _ => rfl) (Nat.le_refl _)) c).cells
        rw [hz1]; exact this
      have hr := run_append_grow_src (P := Try.prog) w 52 52 ty 5 i0 _ Try.underlying52 hi0 hz0 A n c (bs.map u8V) hold _ m (xs.map u8V) hs' (by omega) (by omega) (growslice_fits (by omega) (by rw [hz2]; omega))
      have hge := grownCap_ge w (n + m) c 5
      have hcm : grownCap w (n + m) c 5 ≤ maxLen := grownCap_le_maxLen w (n + m) c 5 (by unfold maxLen; omega)
      obtain ⟨K, hK⟩ : ∃ K, grownCap w (n + m) c 5 = K := ⟨_, rfl⟩
      rw [hK] at hr hge hcm
      have hcell := fun i => cell_of_row (w.drew.alloc (.cells ((bs.map u8V ++ xs.map u8V).toArray ++ Builtin.zeroCells (Value.int .u8 0).cells (K - (n + m))) 5)) w.heap.size i _ 5 (0, 0) (heap_alloc_new w.drew _)
      have hcs : ((bs.map u8V ++ xs.map u8V).toArray ++ Builtin.zeroCells (Value.int .u8 0).cells (K - (n + m))).size = K := by
        have : (Value.int IntKind.u8 0).cells.size = 1 := rfl
        simp only [Array.size_append, List.size_toArray, size_zeroCells, List.length_append, List.length_map, hbl, hxl, this]; omega
      refine ⟨_, _, _, hr, ⟨by rw [List.length_append, hbl, hxl], hge, hcm, .inr ⟨w.heap.size, 0, rfl, by simp, fun i z hi => ?_, fun j hj => ⟨?_, ?_⟩⟩⟩, ⟨rfl, rfl, rfl, by simp, fun j hj _ => Below.heap_alloc w.drew _ j hj⟩, fun j hj => .inr ?_⟩
      · rw [Nat.zero_add, hcell]
        have hlt := (List.getElem?_eq_some_iff.1 hi).1
        rw [Array.getElem?_append_left (by simpa using hlt), ← List.map_append, List.getElem?_toArray, List.getElem?_map, hi]; rfl
      · rw [Nat.zero_add, hcell, Array.getElem?_eq_getElem (by rw [hcs]; exact hj)]; rfl
      · unfold World.frozen?
        rw [show (w.drew.alloc (.cells ((bs.map u8V ++ xs.map u8V).toArray ++ Builtin.zeroCells (Value.int .u8 0).cells (K - (n + m))) 5)).heap[w.heap.size]? = _ from heap_alloc_new w.drew _]
        simp
      · obtain ⟨o, e⟩ := hj
        injection e with e; injection e with e _ _
        omega
end
end Go.Proofs.Ytgcbcdbfeaepkaa
