/- Bytes in memory with all their capacity, wherever in a block they begin: append, slices of them, bytes.Clone. A buffer in memory; New, Full, Gone, Put. -/
import Derived.Test.YtgcbcdbfeaepkaaBt
import Derived.Deep.AppendSrc
import Derived.Deep.Upon
namespace Go.Proofs.Ytgcbcdbfeaepkaa
open Go.RowKit Go.Maps

/-- A slice of bytes with its spare cells, which are there and not frozen. -/
structure RowAt (w : World) (A : Option Addr) (n c : Nat) (bs : List UInt8) : Prop where
  len : bs.length = n
  le : n ≤ c
  max : c ≤ maxLen
  cells : (A = none ∧ c = 0) ∨ ∃ g o, A = some ⟨g, o, none⟩ ∧ g < w.heap.size ∧ (∀ i z, bs[i]? = some z → w.cell? ⟨g, o + i, none⟩ = some (u8V z)) ∧ ∀ j, j < c → (w.cell? ⟨g, o + j, none⟩).isSome = true ∧ w.frozen? ⟨g, o + j, none⟩ = false
/-- The slice's block. -/
def InB (A : Option Addr) (j : Nat) : Prop := ∃ o, A = some ⟨j, o, none⟩
section
variable {w w' : World} {A B : Option Addr} {n c m d : Nat} {bs xs : List UInt8}
theorem RowAt.bytes (h : RowAt w A n c bs) : BytesAt w A n bs :=
  ⟨h.len, fun hn => by
    rcases h.cells with ⟨_, hc⟩ | ⟨g, o, e, hg, hc, _⟩
    · have := h.le; omega
    · exact ⟨g, o, e, hg, hc⟩⟩
theorem RowAt.nil (w : World) : RowAt w none 0 0 [] := ⟨rfl, Nat.le_refl _, Nat.zero_le _, .inl ⟨rfl, rfl⟩⟩
theorem RowAt.keep (h : RowAt w A n c bs) (hb : ∀ b, InB A b → b < w.heap.size → w'.heap[b]? = w.heap[b]?) (hs : w.heap.size ≤ w'.heap.size) : RowAt w' A n c bs :=
  ⟨h.len, h.le, h.max, h.cells.imp id (fun ⟨g, o, e, hg, hc, hf⟩ => ⟨g, o, e, Nat.lt_of_lt_of_le hg hs, fun i z hi => (World.cell?_of_block (a := ⟨g, o + i, none⟩) (hb g ⟨o, e⟩ hg)).trans (hc i z hi),
    fun j hj => ⟨by rw [World.cell?_of_block (a := ⟨g, o + j, none⟩) (hb g ⟨o, e⟩ hg)]; exact (hf j hj).1, (World.frozen?_of_block (a := ⟨g, o + j, none⟩) (hb g ⟨o, e⟩ hg)).trans (hf j hj).2⟩⟩)⟩
theorem RowAt.kept {X : Nat → Prop} (h : RowAt w A n c bs) (hk : Kept X w w') (hX : ∀ b, InB A b → ¬ X b) : RowAt w' A n c bs := h.keep (fun b hb hlt => hk.block b hlt (hX b hb)) hk.size
theorem RowAt.below (h : RowAt w A n c bs) (hb : Below w.heap.size w w') : RowAt w' A n c bs := h.keep (fun b _ hlt => hb.block b hlt) hb.size
theorem RowAt.alloc (h : RowAt w A n c bs) (o : Obj) : RowAt (w.alloc o) A n c bs := h.keep (fun b _ hlt => Below.heap_alloc w o b hlt) (by simp)
theorem RowAt.drewN (h : RowAt w A n c bs) (k : Nat) : RowAt (w.drewN k) A n c bs := ⟨h.len, h.le, h.max, h.cells⟩
theorem RowAt.drew (h : RowAt w A n c bs) : RowAt w.drew A n c bs := ⟨h.len, h.le, h.max, h.cells⟩
theorem RowAt.set_ (h : RowAt w A n c bs) {p : Addr} (hp : ¬ InB A p.block) (u : Value) : RowAt (w.setCell p u) A n c bs := h.keep (fun b hb _ => Below.heap_setCell w p u b (by rintro rfl; exact hp hb)) (by simp [World.setCell])
theorem RowAt.lt (h : RowAt w A n c bs) {b : Nat} (hb : InB A b) : b < w.heap.size := by
  obtain ⟨o, e⟩ := hb
  rcases h.cells with ⟨e2, _⟩ | ⟨g, o2, e2, hg, _⟩
  · rw [e] at e2; cases e2
  · rw [e] at e2; injection e2 with e2; injection e2 with e2 _ _; omega
/-- Its first k. -/
theorem RowAt.take (h : RowAt w A n c bs) {k : Nat} (hk : k ≤ n) : RowAt w A k c (bs.take k) :=
  ⟨by rw [List.length_take, h.len]; omega, by have := h.le; omega, h.max, h.cells.imp id (fun ⟨g, o, e, hg, hc, hf⟩ => ⟨g, o, e, hg, fun i z hi => hc i z (by
    have := (List.getElem?_eq_some_iff.1 hi).1
    rw [List.length_take] at this
    rw [List.getElem?_take_of_lt (by omega)] at hi
    exact hi), hf⟩)⟩
/-- Where a slice without its first k begins. -/
def behind (A : Option Addr) (c k : Nat) : Option Addr := if c = k then A else A.map (fun x => x.add k)
theorem RowAt.drop (h : RowAt w A n c bs) {k : Nat} (hk : k ≤ n) : RowAt w (behind A c k) (n - k) (c - k) (bs.drop k) := by
  have hle := h.le
  have hmx := h.max
  refine ⟨by rw [List.length_drop, h.len], by omega, by omega, ?_⟩
  rcases h.cells with ⟨rfl, rfl⟩ | ⟨g, o, rfl, hg, hc, hf⟩
  · left
    obtain rfl : k = 0 := by omega
    exact ⟨rfl, rfl⟩
  · right
    unfold behind
    by_cases e : c = k
    · rw [if_pos e]
      subst e
      refine ⟨g, o, rfl, hg, fun i z hi => ?_, fun j hj => by omega⟩
      have := (List.getElem?_eq_some_iff.1 hi).1
      rw [List.length_drop, h.len] at this
      omega
    · rw [if_neg e]
      refine ⟨g, o + k, by simp [Addr.add_mid], hg, fun i z hi => ?_, fun j hj => ?_⟩
      · rw [List.getElem?_drop] at hi
        rw [Nat.add_assoc]
        exact hc _ z hi
      · rw [Nat.add_assoc]
        exact hf (k + j) (by omega)
theorem RowAt.behind_in (hr : RowAt w A n c bs) {k j : Nat} (h : InB (behind A c k) j) : InB A j := by
  unfold behind at h
  split at h
  · exact h
  · rcases hr.cells with ⟨rfl, _⟩ | ⟨g, o, rfl, _⟩
    · obtain ⟨o, e⟩ := h; cases e
    · obtain ⟨o2, e⟩ := h
      simp only [Option.map_some, Addr.add_mid, Option.some.injEq, Addr.mk.injEq] at e
      exact ⟨o, by rw [e.1]⟩
theorem src_of (hx : BytesAt w B m xs) (d : Nat) : Src Try.prog 1 52 (.slice B m d) m (xs.map u8V) w := by
  obtain rfl := hx.1
  cases B with
  | none =>
    obtain rfl : xs = [] := List.eq_nil_of_length_eq_zero (by
      rcases Nat.eq_zero_or_pos xs.length with h0 | h0
      · exact h0
      · obtain ⟨b, o, e, _⟩ := hx.2 h0; cases e)
    exact Src.ofNil w Try.underlying52 d
  | some ad =>
    refine Src.ofSlice w Try.underlying52 ad xs.length d (xs.map u8V) (by simp) (fun j u hu => ?_) (fun u hu => by obtain ⟨x, _, rfl⟩ := List.mem_map.1 hu; rfl)
    obtain ⟨x, hx', rfl⟩ : ∃ x, xs[j]? = some x ∧ u8V x = u := by simpa using hu
    have hj : 0 < xs.length := by have := (List.getElem?_eq_some_iff.1 hx').1; omega
    obtain ⟨b, o, e, _, hc⟩ := hx.2 hj
    have e := Option.some.inj e
    subst e
    rw [Addr.add_mid]
    exact hc j x hx'
set_option maxHeartbeats 1000000 in
/-- append: behind what is there, or in a block of its own. -/
theorem row_append (ty : TypeId) (h : RowAt w A n c bs) (hx : BytesAt w B m xs) (hl : n + m ≤ 140737488355328) :
    ∃ A' c' w', (Builtin.append_ #[52, 52] ty #[.slice A n c, .slice B m d]).run Try.prog w = .ok (.slice A' (n + m) c') w' ∧ RowAt w' A' (n + m) c' (bs ++ xs) ∧ Kept (InB A) w w' ∧ (∀ j, InB A' j → InB A j ∨ w.heap.size ≤ j) := by
  obtain ⟨i0, hi0, hz0, hz1, hz2⟩ := info_parts byte_info
  have hs := src_of hx d
  have hle := h.le
  have hbl := h.len
  have hxl := hx.1
  have hs' : Src Try.prog i0.size 52 (.slice B m d) m (xs.map u8V) w := by rw [hz1]; exact hs
  rcases Nat.eq_zero_or_pos m with hm0 | hm0
  · subst hm0
    obtain rfl : xs = [] := List.eq_nil_of_length_eq_zero hxl
    refine ⟨A, c, w, run_append_nothing w 52 52 ty 5 i0 Try.underlying52 hi0 A n c hle _ hs', by simpa using h, Kept.refl _ _, fun j hj => .inl hj⟩
  · by_cases hroom : n + m ≤ c
    · rcases h.cells with ⟨_, hc0⟩ | ⟨g, o, rfl, hg, hc, hf⟩
      · omega
      · have hth : ∀ j, j < (xs.map u8V).length → (w.cell? ⟨g, o + n * i0.size + j, none⟩).isSome = true := fun j hj => by
          rw [hz1, Nat.mul_one, Nat.add_assoc]; exact (hf (n + j) (by simp at hj; omega)).1
        have hr := run_append_room_src (P := Try.prog) w 52 52 ty 5 i0 Try.underlying52 hi0 g o n c _ m (xs.map u8V) hs' hroom hth (fun j hj => by rw [hz1, Nat.mul_one, Nat.add_assoc]; exact (hf (n + j) (by simp at hj; omega)).2)
        rw [hz1, Nat.mul_one] at hr hth
        have hkb := World.keptBut_setCells g (may := fun p => p.block = g) (xs.map u8V) (o + n) w (fun _ _ => rfl)
        have hsz : (w.setCells g (o + n) (xs.map u8V)).heap.size = w.heap.size := by
          have : ∀ (vs : List Value) (o : Nat) (w : World), (w.setCells g o vs).heap.size = w.heap.size := by
            intro vs
            induction vs with
            | nil => intro o w; rfl
            | cons v vs ih => intro o w; show ((w.setCell ⟨g, o, none⟩ v).setCells g (o + 1) vs).heap.size = _; rw [ih]; simp [World.setCell]
          exact this _ _ _
        have htp : (w.setCells g (o + n) (xs.map u8V)).tape = w.tape := by
          have : ∀ (vs : List Value) (o : Nat) (w : World), (w.setCells g o vs).tape = w.tape := by
            intro vs
            induction vs with
            | nil => intro o w; rfl
            | cons v vs ih => intro o w; show ((w.setCell ⟨g, o, none⟩ v).setCells g (o + 1) vs).tape = _; rw [ih]; rfl
          exact this _ _ _
        refine ⟨_, _, _, hr, ⟨by rw [List.length_append, hbl, hxl], hroom, h.max, .inr ⟨g, o, rfl, by rw [hsz]; exact hg, fun i z hi => ?_, fun j hj => ⟨?_, ?_⟩⟩⟩, ⟨hkb.1, htp, hkb.2.1, by rw [hsz]; exact Nat.le_refl _, fun j hj hne => World.heap_setCells_other w g _ _ hj (fun e => hne ⟨o, by rw [e]⟩)⟩, fun j hj => .inl hj⟩
        · by_cases hi2 : i < n
          · rw [List.getElem?_append_left (by omega)] at hi
            rw [World.cell?_setCells_out g _ _ _ _ (fun _ _ => .inl (by show o + i < o + n; omega))]
            exact hc i z hi
          · rw [List.getElem?_append_right (by omega), hbl] at hi
            have hlt := (List.getElem?_eq_some_iff.1 hi).1
            have := World.cell?_setCells_in g (xs.map u8V) (o + n) w hth (i - n) (by simpa using hlt)
            rw [show o + n + (i - n) = o + i by omega] at this
            rw [this]
            have e2 := (List.getElem?_eq_some_iff.1 hi).2
            simp [e2]
        · by_cases hj2 : j < n ∨ n + m ≤ j
          · rw [World.cell?_setCells_out g _ _ _ _ (fun _ _ => by show o + j < o + n ∨ o + n + (xs.map u8V).length ≤ o + j; simp; omega)]
            exact (hf j hj).1
          · have := World.cell?_setCells_in g (xs.map u8V) (o + n) w hth (j - n) (by simp; omega)
            rw [show o + n + (j - n) = o + j by omega] at this
            rw [this]; rfl
        · rw [World.frozen?_setCells]; exact (hf j hj).2
    · have hold : (Builtin.firstCells i0.size n (.slice A n c)).run Try.prog w.drew = .ok (bs.map u8V).toArray w.drew := by
        have := (src_of (h.bytes.up (w' := w.drew) (fun _ _ => rfl) (Nat.le_refl _)) c).cells
        rw [hz1]; exact this
      have hr := run_append_grow_src (P := Try.prog) w 52 52 ty 5 i0 _ Try.underlying52 hi0 hz0 A n c (bs.map u8V) hold _ m (xs.map u8V) hs' (by omega) (by omega) (growslice_fits (by omega) (by rw [hz2]; omega))
      have hge := grownCap_ge w (n + m) c 5
      have hcm : grownCap w (n + m) c 5 ≤ maxLen := grownCap_le_maxLen w (n + m) c 5 (by unfold maxLen; omega)
      obtain ⟨K, hK⟩ : ∃ K, grownCap w (n + m) c 5 = K := ⟨_, rfl⟩
      rw [hK] at hr hge hcm
      have hcell := fun i => cell_of_row (w.drew.alloc (.cells ((bs.map u8V ++ xs.map u8V).toArray ++ Builtin.zeroCells (Value.int .u8 0).cells (K - (n + m))) 5)) w.heap.size i _ 5 (0, 0) (heap_alloc_new w.drew _)
      have hcs : ((bs.map u8V ++ xs.map u8V).toArray ++ Builtin.zeroCells (Value.int .u8 0).cells (K - (n + m))).size = K := by
        have : (Value.int IntKind.u8 0).cells.size = 1 := rfl
        simp only [Array.size_append, List.size_toArray, size_zeroCells, List.length_append, List.length_map, hbl, hxl, this]; omega
      refine ⟨_, _, _, hr, ⟨by rw [List.length_append, hbl, hxl], hge, hcm, .inr ⟨w.heap.size, 0, rfl, by simp, fun i z hi => ?_, fun j hj => ⟨?_, ?_⟩⟩⟩, ⟨rfl, rfl, rfl, by simp, fun j hj _ => Below.heap_alloc w.drew _ j hj⟩, fun j hj => .inr ?_⟩
      · rw [Nat.zero_add, hcell]
        have hlt := (List.getElem?_eq_some_iff.1 hi).1
        rw [Array.getElem?_append_left (by simpa using hlt), ← List.map_append, List.getElem?_toArray, List.getElem?_map, hi]; rfl
      · rw [Nat.zero_add, hcell, Array.getElem?_eq_getElem (by rw [hcs]; exact hj)]; rfl
      · unfold World.frozen?
        rw [show (w.drew.alloc (.cells ((bs.map u8V ++ xs.map u8V).toArray ++ Builtin.zeroCells (Value.int .u8 0).cells (K - (n + m))) 5)).heap[w.heap.size]? = _ from heap_alloc_new w.drew _]
        simp
      · obtain ⟨o, e⟩ := hj
        injection e with e; injection e with e _ _
        omega
end
end Go.Proofs.Ytgcbcdbfeaepkaa
namespace Go.Proofs.Ytgcbcdbfeaepkaa
open Go.RowKit Go.Maps

/-- The buffer at bp: its bytes, how many may be there, how many have gone. -/
structure BufAt (w : World) (bp : Nat) (A : Option Addr) (c : Nat) (bs : List UInt8) (most : Nat) (gone : Int) : Prop where
  top : Blk w bp 161 #[.slice A bs.length c, .int .i64 (most : Nat), .int .i64 gone]
  row : RowAt w A bs.length c bs
  fit : bs.length ≤ most
  most1 : 1 ≤ most
  most2 : most ≤ 2000
  apart : ¬ InB A bp
/-- Its blocks. -/
def bufF (bp : Nat) (A : Option Addr) (j : Nat) : Prop := j = bp ∨ InB A j
section
variable {w w' : World} {bp : Nat} {A B : Option Addr} {c m d most : Nat} {bs xs : List UInt8} {gone : Int}
theorem BufAt.lt (h : BufAt w bp A c bs most gone) {j : Nat} (hj : bufF bp A j) : j < w.heap.size := by
  rcases hj with rfl | hj
  · exact h.top.lt
  · exact h.row.lt hj
theorem BufAt.keep (h : BufAt w bp A c bs most gone) (hb : ∀ b, bufF bp A b → b < w.heap.size → w'.heap[b]? = w.heap[b]?) (hs : w.heap.size ≤ w'.heap.size) : BufAt w' bp A c bs most gone :=
  ⟨(hb bp (.inl rfl) h.top.lt).trans h.top, h.row.keep (fun b hb' hlt => hb b (.inr hb') hlt) hs, h.fit, h.most1, h.most2, h.apart⟩
theorem BufAt.kept {X : Nat → Prop} (h : BufAt w bp A c bs most gone) (hk : Kept X w w') (hX : ∀ b, bufF bp A b → ¬ X b) : BufAt w' bp A c bs most gone := h.keep (fun b hb hlt => hk.block b hlt (hX b hb)) hk.size
theorem BufAt.below (h : BufAt w bp A c bs most gone) (hb : Below w.heap.size w w') : BufAt w' bp A c bs most gone := h.keep (fun b _ hlt => hb.block b hlt) hb.size
theorem BufAt.alloc (h : BufAt w bp A c bs most gone) (o : Obj) : BufAt (w.alloc o) bp A c bs most gone := h.keep (fun b _ hlt => Below.heap_alloc w o b hlt) (by simp)
theorem BufAt.drewN (h : BufAt w bp A c bs most gone) (k : Nat) : BufAt (w.drewN k) bp A c bs most gone := ⟨h.top, h.row.drewN k, h.fit, h.most1, h.most2, h.apart⟩
/-- How many may be there. -/
def mostOf (k : Int) : Nat := (min (max k 1) 2000).toNat
set_option maxRecDepth 100000 in
theorem bnew_any (k : Int) (w : World) : Calls Try.prog 42 #[.int .i64 k] w fun e w' => e = .returned (.pointer (some ⟨w.heap.size, 0, none⟩)) ∧ BufAt w' w.heap.size none 0 [] (mostOf k) 0 ∧ Below w.heap.size w w' ∧ w'.heap.size = w.heap.size + 1 := by
  have HX := Lib.hid (fun (n : Nat) (h1 : 1 ≤ n) (h2 : n ≤ 2000) => show BufAt (w.alloc (.cells #[.slice none 0 0, .int .i64 (n : Nat), .int .i64 0] 161)) w.heap.size none 0 [] n 0 from
    ⟨Blk.new w _ _, RowAt.nil _, Nat.zero_le _, h1, h2, fun ⟨o, e⟩ => by cases e⟩)
  have HE := Lib.hid (show ((mostOf k : Nat) : Int) = min (max k 1) 2000 ∧ 1 ≤ mostOf k ∧ mostOf k ≤ 2000 by unfold mostOf; omega)
  have HB := Lib.hid (fun (o : Obj) => (Below.refl w.heap.size w).alloc (Nat.le_refl _) o)
  go_enter Try.func42, Try.ntmps42
  go_wp2
  all_goals
    go_ret
    refine ⟨rfl, ?_, HB.out _, by simp⟩
    have := HX.out (mostOf k) HE.out.2.1 HE.out.2.2
    rw [HE.out.1] at this
    first | (rw [show min (max k 1) 2000 = 1 by omega] at this; exact this) | (rw [show min (max k 1) 2000 = 2000 by omega] at this; exact this) | (rw [show min (max k 1) 2000 = k by omega] at this; exact this)
set_option maxRecDepth 100000 in
theorem bfull_any (h : BufAt w bp A c bs most gone) : Calls Try.prog 107 #[.pointer (some ⟨bp, 0, none⟩)] w fun e w' => e = .returned (.bool (decide (bs.length = most))) ∧ ∃ k, w' = w.drewN k := by
  have hr := h.row.le
  obtain ⟨c0, c1, c2, f0, f1, f2⟩ := blk3 h.top
  clear h
  go_enter Try.func107, Try.ntmps107
  go_wp2
  go_quiet (fail)
  go_wp2
  go_ret
  refine ⟨ret_bool (decide_eq_decide.2 ?_), _, rfl⟩
  omega
/-- What has gone by a Put. -/
def goneBy (bs xs : List UInt8) (most : Nat) : Nat := (bs ++ xs).length - most
theorem put_plain (g : Nat) (bs xs : List UInt8) : bs.drop (min g bs.length) ++ xs.drop (g - min g bs.length) = (bs ++ xs).drop g := by
  rw [List.drop_append]
  rcases Nat.le_total g bs.length with h | h
  · rw [Nat.min_eq_left h, Nat.sub_self, show g - bs.length = 0 by omega]
  · rw [Nat.min_eq_right h, List.drop_of_length_le (Nat.le_refl _), List.drop_of_length_le h]
theorem BytesAt.behind (h : BytesAt w B m xs) {k d : Nat} (hk : k ≤ m) (hd : m ≤ d) : BytesAt w (Go.Proofs.Ytgcbcdbfeaepkaa.behind B d k) (m - k) (xs.drop k) :=
  ⟨by rw [List.length_drop, h.1], fun hm => by
    obtain ⟨b, o, rfl, hlt, hc⟩ := h.2 (by omega)
    refine ⟨b, o + k, ?_, hlt, fun i z hi => ?_⟩
    · unfold Go.Proofs.Ytgcbcdbfeaepkaa.behind
      rw [if_neg (by omega)]
      simp [Addr.add_mid]
    · rw [List.getElem?_drop] at hi
      rw [Nat.add_assoc]
      exact hc _ z hi⟩
set_option maxHeartbeats 2000000 in
set_option maxRecDepth 100000 in
theorem bput_any (h : BufAt w bp A c bs most gone) (hx : BytesAt w B m xs) (hd : m ≤ d) (_ : d ≤ maxLen) (hm : m ≤ 1000000000) (hg0 : 0 ≤ gone) (hg1 : gone ≤ 1000000000000) :
    Calls Try.prog 79 #[.pointer (some ⟨bp, 0, none⟩), .slice B m d] w fun e w' => e = .returned (.int .i64 (goneBy bs xs most : Nat)) ∧ ∃ A' c', BufAt w' bp A' c' ((bs ++ xs).drop (goneBy bs xs most)) most (gone + (goneBy bs xs most : Nat)) ∧ Kept (bufF bp A) w w' ∧ ∀ j, InB A' j → InB A j ∨ w.heap.size ≤ j := by
  have mixed : Try.prog.follows .mixedOrders = true := by kernel_rfl
  have hxl := hx.1
  obtain ⟨n, hn⟩ : ∃ n, n = bs.length := ⟨_, rfl⟩
  obtain ⟨g, hg⟩ : ∃ g, g = goneBy bs xs most := ⟨_, rfl⟩
  have hgd : g = n + m - most := by rw [hg, hn]; unfold goneBy; rw [List.length_append, hxl]
  obtain ⟨old, hold⟩ : ∃ old, old = min g n := ⟨_, rfl⟩
  have hrow := h.row
  have htop := h.top
  have hfit := h.fit
  have hm1 := h.most1
  have hm2 := h.most2
  have hap := h.apart
  rw [← hn] at hrow htop hfit
  rw [← hg]
  have hrd := hrow.drop (k := old) (by omega)
  have hxd := hx.behind (k := g - old) (d := d) (by omega) hd
  have hpl := put_plain g bs xs
  rw [← hn, ← hold] at hpl
  have hlen : n - old + (m - (g - old)) = ((bs ++ xs).drop g).length := by rw [List.length_drop, List.length_append, ← hn, hxl]; omega
  have hfit2 : ((bs ++ xs).drop g).length ≤ most := by rw [← hlen]; omega
  have hle := hrow.le
  have hcm := hrow.max
  unfold maxLen at hcm
  -- region 3's append, at whatever world that has drawn
  obtain ⟨A1, hA1⟩ : ∃ A1, A1 = behind A c old := ⟨_, rfl⟩
  obtain ⟨B1, hB1⟩ : ∃ B1, B1 = behind B d (g - old) := ⟨_, rfl⟩
  have hin : ∀ j, InB A1 j → InB A j := fun j hj => hrow.behind_in (hA1 ▸ hj)
  rw [← hA1] at hrd
  rw [← hB1] at hxd
  have hA2 : (if c = old then A else Option.map (fun x => x.add old) A) = A1 := hA1.symm
  have hB2 : (if d = g - old then B else Option.map (fun x => x.add (g - old)) B) = B1 := hB1.symm
  have HIN := Lib.hid hin
  have HAPP := Lib.hid (row_append (d := d - (g - old)) 52 hrd.drew.drew (show BytesAt w.drew.drew _ _ _ from hxd) (by omega))
  clear hA1 hB1 hin
  have q0 : (if (n : Int) + (m : Int) - (most : Int) < 0 then 0 else (n : Int) + (m : Int) - (most : Int)) = (g : Int) := by split <;> omega
  have q1 : (if n < g then (n : Int) else (g : Int)) = (old : Int) := by split <;> omega
  have q1' : (if g ≤ n then (g : Int) else (n : Int)) = (old : Int) := by split <;> omega
  have q1'' : (if g < n then (g : Int) else (n : Int)) = (old : Int) := by split <;> omega
  have q2 : IntKind.i64.wrap ((n : Int) + (m : Int)) = (n : Int) + (m : Int) := IntWalk.i64_in _ (by omega)
  have q3 : IntKind.i64.wrap ((n : Int) + (m : Int) - (most : Int)) = (n : Int) + (m : Int) - (most : Int) := IntWalk.i64_in _ (by omega)
  have q4 : IntKind.i64.wrap ((g : Int) - (old : Int)) = ((g - old : Nat) : Int) := by rw [IntWalk.i64_in _ (by omega)]; omega
  have q5 : IntKind.i64.wrap (gone + (g : Int)) = gone + (g : Int) := IntWalk.i64_in _ (by omega)
  obtain ⟨c0, c1, c2, f0, f1, f2⟩ := blk3 htop
  have HN := Lib.hid hn
  have HG := Lib.hid hg
  have HPL := Lib.hid hpl
  have HLEN := Lib.hid hlen
  have HROW := Lib.hid hrow
  have HTOP := Lib.hid htop
  have HFIT := Lib.hid hfit2
  have HAP := Lib.hid hap
  have b1 : old ≤ n := by omega
  have b2 : g - old ≤ m := by omega
  have b3 : old ≤ c := by omega
  have b4 : g - old ≤ d := by omega
  clear hn hg hgd hold hrow htop hfit2 hap hrd hxd hpl hlen hfit hxl hx h
  go_enter Try.func79, Try.ntmps79
  go_wp2_with fail
  refine wp_region_held_drew (S := fun W => W.cell? ⟨bp, 0, none⟩ = some (.slice A n c) ∧ W.cell? ⟨bp, 1, none⟩ = some (.int .i64 (most : Nat))) mixed ⟨c0, c1⟩ (fun hS => ?_)
  refine wpAnyH_take (i := 0) (v := .pointer (some ⟨bp, 0, none⟩)) rfl (by kernel_rfl) (by kernel_rfl) (by kernel_rfl) (fun _ _ _ h => h) (Or.inl ⟨by rfl, fun W hW => by obtain ⟨h0, h1⟩ := hW; go_simp⟩) hS ?_
  refine wpAnyH_take (i := 1) (v := .pointer (some ⟨bp, 0, none⟩)) rfl (by kernel_rfl) (by kernel_rfl) (by kernel_rfl) (fun _ _ _ h => h) (Or.inl ⟨by rfl, fun W hW => by obtain ⟨h0, h1⟩ := hW; go_simp⟩) hS ?_
  refine wpAnyH_take (i := 2) (v := .pointer (some ⟨bp, 0, none⟩)) rfl (by kernel_rfl) (by kernel_rfl) (by kernel_rfl) (fun _ _ _ h => h) (Or.inl ⟨by rfl, fun W hW => by obtain ⟨h0, h1⟩ := hW; go_simp⟩) hS ?_
  refine wpAnyH_take (i := 3) (v := .slice A n c) rfl (by kernel_rfl) (by kernel_rfl) (by kernel_rfl) (fun _ _ _ h => h) (Or.inl ⟨by rfl, fun W hW => by obtain ⟨h0, h1⟩ := hW; go_simp⟩) hS ?_
  refine wpAnyH_take (i := 4) (v := .int .i64 (n : Nat)) rfl (by kernel_rfl) (by kernel_rfl) (by kernel_rfl) (fun _ _ _ h => h) (Or.inl ⟨by rfl, fun W hW => by obtain ⟨h0, h1⟩ := hW; go_simp⟩) hS ?_
  refine wpAnyH_take (i := 5) (v := .slice B m d) rfl (by kernel_rfl) (by kernel_rfl) (by kernel_rfl) (fun _ _ _ h => h) (Or.inl ⟨by rfl, fun W hW => by obtain ⟨h0, h1⟩ := hW; go_simp⟩) hS ?_
  refine wpAnyH_take (i := 6) (v := .int .i64 (m : Nat)) rfl (by kernel_rfl) (by kernel_rfl) (by kernel_rfl) (fun _ _ _ h => h) (Or.inl ⟨by rfl, fun W hW => by obtain ⟨h0, h1⟩ := hW; go_simp⟩) hS ?_
  refine wpAnyH_take (i := 7) (v := .int .i64 ((n : Int) + (m : Int))) rfl (by kernel_rfl) (by kernel_rfl) (by kernel_rfl) (fun _ _ _ h => h) (Or.inl ⟨by rfl, fun W hW => by obtain ⟨h0, h1⟩ := hW; go_simp⟩) hS ?_
  refine wpAnyH_take (i := 8) (v := .pointer (some ⟨bp, 0, none⟩)) rfl (by kernel_rfl) (by kernel_rfl) (by kernel_rfl) (fun _ _ _ h => h) (Or.inl ⟨by rfl, fun W hW => by obtain ⟨h0, h1⟩ := hW; go_simp⟩) hS ?_
  refine wpAnyH_take (i := 9) (v := .pointer (some ⟨bp, 0, none⟩)) rfl (by kernel_rfl) (by kernel_rfl) (by kernel_rfl) (fun _ _ _ h => h) (Or.inl ⟨by rfl, fun W hW => by obtain ⟨h0, h1⟩ := hW; go_simp⟩) hS ?_
  refine wpAnyH_take (i := 10) (v := .pointer (some ⟨bp, 1, none⟩)) rfl (by kernel_rfl) (by kernel_rfl) (by kernel_rfl) (fun _ _ _ h => h) (Or.inl ⟨by rfl, fun W hW => by obtain ⟨h0, h1⟩ := hW; go_simp⟩) hS ?_
  refine wpAnyH_take (i := 11) (v := .int .i64 (most : Nat)) rfl (by kernel_rfl) (by kernel_rfl) (by kernel_rfl) (fun _ _ _ h => h) (Or.inl ⟨by rfl, fun W hW => by obtain ⟨h0, h1⟩ := hW; go_simp⟩) hS ?_
  refine wpAnyH_take (i := 12) (v := .int .i64 ((n : Int) + (m : Int) - (most : Int))) rfl (by kernel_rfl) (by kernel_rfl) (by kernel_rfl) (fun _ _ _ h => h) (Or.inl ⟨by rfl, fun W hW => by obtain ⟨h0, h1⟩ := hW; go_simp⟩) hS ?_
  refine wpAnyH_ready (rs := [13]) (by kernel_rfl) (by simp) ?_
  refine AllReadyH.cons rfl (fun K hK => ?_) AllReadyH.nil
  go_simp
  refine hK.out _ _ hS (fun hS => ?_)
  clear hK K
  refine wpAnyH_ready (rs := [14]) (by kernel_rfl) (by simp) ?_
  refine AllReadyH.cons rfl (fun K hK => ?_) AllReadyH.nil
  go_simp
  refine hK.out _ _ hS (fun hS => ?_)
  clear hK K
  refine wpAnyH_done (by kernel_rfl) ?_ _
  clear hS
  clear q0
  go_wp2_with fail
  refine wp_region_held_drew (S := fun W => W.cell? ⟨bp, 1, none⟩ = some (.int .i64 (most : Nat))) mixed c1 (fun hS => ?_)
  refine wpAnyH_take (i := 0) (v := .pointer (some ⟨bp, 0, none⟩)) rfl (by kernel_rfl) (by kernel_rfl) (by kernel_rfl) (fun _ _ _ h => h) (Or.inl ⟨by rfl, fun W hW => by have h0 := hW; go_simp⟩) hS ?_
  refine wpAnyH_take (i := 1) (v := .pointer (some ⟨bp, 0, none⟩)) rfl (by kernel_rfl) (by kernel_rfl) (by kernel_rfl) (fun _ _ _ h => h) (Or.inl ⟨by rfl, fun W hW => by have h0 := hW; go_simp⟩) hS ?_
  refine wpAnyH_take (i := 2) (v := .pointer (some ⟨bp, 0, none⟩)) rfl (by kernel_rfl) (by kernel_rfl) (by kernel_rfl) (fun _ _ _ h => h) (Or.inl ⟨by rfl, fun W hW => by have h0 := hW; go_simp⟩) hS ?_
  refine wpAnyH_take (i := 3) (v := .pointer (some ⟨bp, 0, none⟩)) rfl (by kernel_rfl) (by kernel_rfl) (by kernel_rfl) (fun _ _ _ h => h) (Or.inl ⟨by rfl, fun W hW => by have h0 := hW; go_simp⟩) hS ?_
  refine wpAnyH_take (i := 5) (v := .int .i64 (old : Nat)) rfl (by kernel_rfl) (by kernel_rfl) (by kernel_rfl) (fun _ _ _ h => h) (Or.inl ⟨by rfl, fun W hW => by have h0 := hW; go_simp⟩) hS ?_
  refine wpAnyH_take (i := 7) (v := .slice B m d) rfl (by kernel_rfl) (by kernel_rfl) (by kernel_rfl) (fun _ _ _ h => h) (Or.inl ⟨by rfl, fun W hW => by have h0 := hW; go_simp⟩) hS ?_
  refine wpAnyH_take (i := 8) (v := .int .i64 (g : Nat)) rfl (by kernel_rfl) (by kernel_rfl) (by kernel_rfl) (fun _ _ _ h => h) (Or.inl ⟨by rfl, fun W hW => by have h0 := hW; go_simp⟩) hS ?_
  refine wpAnyH_take (i := 9) (v := .int .i64 (old : Nat)) rfl (by kernel_rfl) (by kernel_rfl) (by kernel_rfl) (fun _ _ _ h => h) (Or.inl ⟨by rfl, fun W hW => by have h0 := hW; go_simp⟩) hS ?_
  refine wpAnyH_take (i := 10) (v := .int .i64 ((g - old : Nat) : Int)) rfl (by kernel_rfl) (by kernel_rfl) (by kernel_rfl) (fun _ _ _ h => h) (Or.inl ⟨by rfl, fun W hW => by have h0 := hW; go_simp⟩) hS ?_
  refine wpAnyH_take (i := 11) (v := .slice B1 (m - (g - old)) (d - (g - old))) rfl (by kernel_rfl) (by kernel_rfl) (by kernel_rfl) (fun _ _ _ h => h) (Or.inl ⟨by rfl, fun W hW => by have h0 := hW; go_simp⟩) hS ?_
  refine wpAnyH_ready (rs := [4]) (by kernel_rfl) (by simp) ?_
  refine AllReadyH.cons rfl (fun K hK => ?_) AllReadyH.nil
  go_simp
  refine hK.out _ _ hS (fun hS => ?_)
  clear hK K
  refine wpAnyH_ready (rs := [6]) (by kernel_rfl) (by simp) ?_
  refine AllReadyH.cons rfl (fun K hK => ?_) AllReadyH.nil
  go_simp
  refine hK.out _ _ hS (fun hS => ?_)
  clear hK K
  refine wpAnyH_ready (rs := [12]) (by kernel_rfl) (by simp) ?_
  refine AllReadyH.cons rfl (fun K hK => ?_) AllReadyH.nil
  clear hA2 hB2
  obtain ⟨A', c', w1, hrun, hr1, hk1, hin1⟩ := HAPP.out
  have T1 : Blk w1 bp 161 #[.slice A n c, .int .i64 (most : Nat), .int .i64 gone] := (hk1.block bp (by exact HTOP.out.lt) (fun h => HAP.out (HIN.out _ h))).trans HTOP.out
  obtain ⟨d0, d1, d2, k0, k1, k2⟩ := blk3 T1
  have HT1 := Lib.hid T1
  have HR1 := Lib.hid hr1
  have HK1 := Lib.hid hk1
  have HIN1 := Lib.hid hin1
  refine step_append_run rfl (.tmp 34) (.tmp 39) 52 (by rfl) _ _ _ (by rfl) (by rfl) hrun ?_
  have HD1 := Lib.hid (fun u => show (w1.setCell ⟨bp, 0, none⟩ u).cell? ⟨bp, 1, none⟩ = some (.int .i64 (most : Nat)) from (T1.set_ 0 u).cell 1)
  refine hK.out _ _ d1 (fun hS => ?_)
  clear hK K c0 c1 c2 f0 f1 f2 hrun T1 hr1 hk1 hin1 HAPP
  refine wpAnyH_take (i := 13) (v := .pointer (some ⟨bp, 0, none⟩)) rfl (by kernel_rfl) (by kernel_rfl) (by kernel_rfl) (fun _ _ _ h => h) (Or.inl ⟨by rfl, fun W hW => by have h0 := hW; go_simp⟩) hS ?_
  refine wpAnyH_take (i := 14) (v := .pointer (some ⟨bp, 0, none⟩)) rfl (by kernel_rfl) (by kernel_rfl) (by kernel_rfl) (fun _ _ _ h => h) (Or.inl ⟨by rfl, fun W hW => by have h0 := hW; go_simp⟩) hS ?_
  refine wpAnyH_ready (rs := [15]) (by kernel_rfl) (by simp) ?_
  refine AllReadyH.cons rfl (fun K hK => ?_) AllReadyH.nil
  go_simp
  refine hK.out _ _ (HD1.out _) (fun hS => ?_)
  refine wpAnyH_done (by kernel_rfl) ?_ _
  clear hS
  go_wp2
  go_ret
  have hbw : bp < w.heap.size := HTOP.out.lt
  have hnb : ¬ InB A' bp := fun h => by
    rcases HIN1.out bp h with h | h
    · exact HAP.out (HIN.out bp h)
    · have h2 : w.heap.size ≤ bp := h
      omega
  have hr2 := HR1.out
  rw [HPL.out, HLEN.out] at hr2
  rw [HLEN.out]
  refine ⟨rfl, A', c', ⟨((HT1.out.set_ 0 _).set_ 2 _ : Blk _ _ _ _), (hr2.set_ (p := ⟨bp, 0, none⟩) hnb _).set_ (p := ⟨bp, 2, none⟩) hnb _, HFIT.out, hm1, hm2, hnb⟩, ?_, fun j hj => ?_⟩
  · have hk : Kept (bufF bp A) w w1 := ((Kept.refl (bufF bp A) w).drew.drew).trans HK1.out (fun j hj => .inl (.inr (HIN.out j hj)))
    exact (hk.set_ (p := ⟨bp, 0, none⟩) (.inl (.inl rfl)) _).set_ (p := ⟨bp, 2, none⟩) (.inl (.inl rfl)) _
  · rcases HIN1.out j hj with h | h
    · exact .inl (HIN.out j h)
    · exact .inr h
end
end Go.Proofs.Ytgcbcdbfeaepkaa
