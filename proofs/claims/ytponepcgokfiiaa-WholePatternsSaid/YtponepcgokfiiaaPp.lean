/- A block of memory that is known whole; what has grown. Bytes in memory: what a slice of them reads as, what keeps it, append, texts; what stays but for some blocks. The cursor's leaves: HasPrefix, Over, Is, Skip, Take at a cursor that lies in a block of its own. Plain functions: trees of patterns, letters and ranges as the parsers read them. No program. -/
import Derived.Test.YtponepcgokfiiaaProg
import Derived.WalkKit
import Derived.WalkLawsBesides
import Derived.Deep.QuietTactic
import Derived.BigQuiet
import Derived.Lib.Hide
import Derived.Below
import Derived.Deep.Draws
import Derived.Deep.AppendLies
import Derived.Maps.AppendAt
import Derived.Deep.RegionHeld3
import Derived.Lib.SlBytesConst
import Derived.Laws.BytesArg
namespace Go.Proofs.Ytponepcgokfiiaa
open Go.RowKit

/-- Block g is just these cells. -/
def Blk (w : World) (g : Nat) (t : TypeId) (cs : Array Value) : Prop := w.heap[g]? = some (.cells cs t (0, 0))
section
variable {w w' : World} {g : Nat} {t : TypeId} {cs : Array Value}
theorem Blk.lt (h : Blk w g t cs) : g < w.heap.size := by
  rcases Nat.lt_or_ge g w.heap.size with hlt | hge
  · exact hlt
  · unfold Blk at h; rw [Array.getElem?_eq_none hge] at h; cases h
theorem Blk.cell (h : Blk w g t cs) (i : Nat) : w.cell? ⟨g, i, none⟩ = cs[i]? := cell_of_row w g i cs t (0, 0) h
theorem Blk.frozen (h : Blk w g t cs) (i : Nat) : w.frozen? ⟨g, i, none⟩ = false := by
  unfold Blk at h
  simp [World.frozen?, h]
theorem Blk.new (w : World) (t : TypeId) (cs : Array Value) : Blk (w.alloc (.cells cs t)) w.heap.size t cs := heap_alloc_new w _
theorem Blk.drew (h : Blk w g t cs) : Blk w.drew g t cs := h
theorem Blk.drewN (h : Blk w g t cs) (n : Nat) : Blk (w.drewN n) g t cs := h
theorem Blk.alloc (h : Blk w g t cs) (o : Obj) : Blk (w.alloc o) g t cs := (Below.heap_alloc w o g h.lt).trans h
theorem Blk.set_ (h : Blk w g t cs) (i : Nat) (u : Value) : Blk (w.setCell ⟨g, i, none⟩ u) g t (cs.setIfInBounds i u) := by
  unfold Blk at h ⊢
  simp [World.setCell, Array.getElem?_modify, h]
theorem Blk.far (h : Blk w g t cs) {p : Addr} (hp : g ≠ p.block) (u : Value) : Blk (w.setCell p u) g t cs := (Below.heap_setCell w p u g hp).trans h
theorem Blk.below {B : Nat} (h : Blk w g t cs) (hb : Below B w w') (hg : g < B) : Blk w' g t cs := (hb.block g hg).trans h
theorem Blk.grown {row : Option Nat} (h : Blk w g t cs) (hb : w.grownBy w' row) (hg : some g ≠ row) : Blk w' g t cs := (hb.block g h.lt hg).trans h
end
theorem blk2 {w : World} {g : Nat} {t : TypeId} {a b : Value} (h : Blk w g t #[a, b]) : w.cell? ⟨g, 0, none⟩ = some a ∧ w.cell? ⟨g, 1, none⟩ = some b ∧ w.frozen? ⟨g, 0, none⟩ = false ∧ w.frozen? ⟨g, 1, none⟩ = false :=
  ⟨h.cell 0, h.cell 1, h.frozen 0, h.frozen 1⟩
theorem blk3 {w : World} {g : Nat} {t : TypeId} {a b c : Value} (h : Blk w g t #[a, b, c]) : w.cell? ⟨g, 0, none⟩ = some a ∧ w.cell? ⟨g, 1, none⟩ = some b ∧ w.cell? ⟨g, 2, none⟩ = some c ∧ w.frozen? ⟨g, 0, none⟩ = false ∧ w.frozen? ⟨g, 1, none⟩ = false ∧ w.frozen? ⟨g, 2, none⟩ = false :=
  ⟨h.cell 0, h.cell 1, h.cell 2, h.frozen 0, h.frozen 1, h.frozen 2⟩
theorem gb_refl (w : World) (row : Option Nat) : w.grownBy w row := World.grownBy.refl w row
theorem gb_drewN {a w : World} {row : Option Nat} (h : a.grownBy w row) (n : Nat) : a.grownBy (w.drewN n) row := ⟨h.os, h.tape, h.output, h.size, h.block⟩
theorem gb_drew {a w : World} {row : Option Nat} (h : a.grownBy w row) : a.grownBy w.drew row := ⟨h.os, h.tape, h.output, h.size, h.block⟩
theorem gb_alloc {a w : World} {row : Option Nat} (h : a.grownBy w row) (o : Obj) : a.grownBy (w.alloc o) row :=
  ⟨h.os, h.tape, h.output, Nat.le_trans h.size (by simp), fun i hi hne => (Below.heap_alloc w o i (Nat.lt_of_lt_of_le hi h.size)).trans (h.block i hi hne)⟩
theorem gb_set {a w : World} {g : Nat} (h : a.grownBy w (some g)) {p : Addr} (hp : p.block = g ∨ a.heap.size ≤ p.block) (u : Value) : a.grownBy (w.setCell p u) (some g) :=
  ⟨h.os, h.tape, h.output, by simpa [World.setCell] using h.size, fun i hi hne => (Below.heap_setCell w p u i (by
    rintro rfl
    rcases hp with hp | hp
    · exact hne (by rw [hp])
    · omega)).trans (h.block i hi hne)⟩
theorem gb_trans {a b c : World} {row : Option Nat} (h : a.grownBy b row) (k : b.grownBy c row) : a.grownBy c row :=
  ⟨k.os.trans h.os, k.tape.trans h.tape, k.output.trans h.output, Nat.le_trans h.size k.size, fun i hi hne => (k.block i (Nat.lt_of_lt_of_le hi h.size) hne).trans (h.block i hi hne)⟩
theorem gb_below {a w : World} (h : Below a.heap.size a w) (row : Option Nat) : a.grownBy w row := ⟨h.os, h.tape, h.output, h.size, fun i hi _ => h.block i hi⟩
/-- A step whose row is new, or the same row. -/
theorem gb_step {a b c : World} {g : Nat} {row : Option Nat} (h : a.grownBy b (some g)) (k : b.grownBy c row) (hr : ∀ j, row = some j → j = g ∨ a.heap.size ≤ j) : a.grownBy c (some g) :=
  ⟨k.os.trans h.os, k.tape.trans h.tape, k.output.trans h.output, Nat.le_trans h.size k.size, fun i hi hne => (k.block i (Nat.lt_of_lt_of_le hi h.size) (fun e => by
    rcases hr i e.symm with h1 | h1
    · exact hne (by rw [h1])
    · omega)).trans (h.block i hi hne)⟩

theorem ret_bool {a b : Bool} (h : a = b) : Ending.returned (.bool a) = .returned (.bool b) := by rw [h]
end Go.Proofs.Ytponepcgokfiiaa
namespace Go.Proofs.Ytponepcgokfiiaa
open Go.RowKit Go.Maps

def u8V (c : UInt8) : Value := .int .u8 c.toNat
/-- What stays but for some blocks. -/
structure Kept (X : Nat → Prop) (w w' : World) : Prop where
  os : w'.os = w.os
  tape : w'.tape = w.tape
  output : w'.output = w.output
  size : w.heap.size ≤ w'.heap.size
  block : ∀ j, j < w.heap.size → ¬ X j → w'.heap[j]? = w.heap[j]?
section
variable {w w' w2 : World} {X Y : Nat → Prop}
theorem Kept.refl (X : Nat → Prop) (w : World) : Kept X w w := ⟨rfl, rfl, rfl, Nat.le_refl _, fun _ _ _ => rfl⟩
theorem Kept.trans (h : Kept X w w') (k : Kept Y w' w2) (hy : ∀ j, Y j → X j ∨ w.heap.size ≤ j) : Kept X w w2 :=
  ⟨k.os.trans h.os, k.tape.trans h.tape, k.output.trans h.output, Nat.le_trans h.size k.size, fun j hj hx =>
    (k.block j (Nat.lt_of_lt_of_le hj h.size) (fun y => by rcases hy j y with h1 | h1; exact hx h1; omega)).trans (h.block j hj hx)⟩
theorem Kept.mono (h : Kept X w w') (hx : ∀ j, j < w.heap.size → X j → Y j) : Kept Y w w' := ⟨h.os, h.tape, h.output, h.size, fun j hj hn => h.block j hj (fun x => hn (hx j hj x))⟩
theorem Kept.alloc (h : Kept X w w') (o : Obj) : Kept X w (w'.alloc o) := ⟨h.os, h.tape, h.output, Nat.le_trans h.size (by simp), fun j hj hx => (Below.heap_alloc w' o j (Nat.lt_of_lt_of_le hj h.size)).trans (h.block j hj hx)⟩
theorem Kept.drewN (h : Kept X w w') (n : Nat) : Kept X w (w'.drewN n) := ⟨h.os, h.tape, h.output, h.size, h.block⟩
theorem Kept.drew (h : Kept X w w') : Kept X w w'.drew := ⟨h.os, h.tape, h.output, h.size, h.block⟩
theorem Kept.set_ (h : Kept X w w') {p : Addr} (hp : X p.block ∨ w.heap.size ≤ p.block) (u : Value) : Kept X w (w'.setCell p u) :=
  ⟨h.os, h.tape, h.output, by simpa [World.setCell] using h.size, fun j hj hx => (Below.heap_setCell w' p u j (by
    rintro rfl
    rcases hp with h1 | h1
    · exact hx h1
    · omega)).trans (h.block j hj hx)⟩
theorem Kept.grown (h : Kept X w w') {row : Option Nat} (g : w'.grownBy w2 row) (hr : ∀ j, row = some j → X j ∨ w.heap.size ≤ j) : Kept X w w2 :=
  ⟨g.os.trans h.os, g.tape.trans h.tape, g.output.trans h.output, Nat.le_trans h.size g.size, fun j hj hx => (g.block j (Nat.lt_of_lt_of_le hj h.size) (fun e => by
    rcases hr j e.symm with h1 | h1
    · exact hx h1
    · omega)).trans (h.block j hj hx)⟩
theorem Kept.below {B : Nat} (h : Kept X w w') (hB : B ≤ w.heap.size) (hx : ∀ j, X j → B ≤ j) : Below B w w' :=
  ⟨h.os, h.tape, h.output, h.size, fun j hj => h.block j (Nat.lt_of_lt_of_le hj hB) (fun x => by have := hx j x; omega)⟩
theorem kept_below (h : Below w.heap.size w w') : Kept X w w' := ⟨h.os, h.tape, h.output, h.size, fun j hj _ => h.block j hj⟩
end
theorem row_shape {w : World} {v : Value} {n : Nat} {xs : List Value} (h : w.ownsRow 0 5 1 v n xs) : ∃ A c, v = .slice A n c ∧ n ≤ c ∧ c ≤ maxLen := by
  rcases h.2 with ⟨e, rfl⟩ | ⟨g, cap, cur, e, _, _, h1, h2, _⟩
  · exact ⟨none, 0, e, Nat.le_refl _, by decide⟩
  · exact ⟨_, cap, e, h1, h2⟩
/-- A slice of bytes in memory. -/
def BytesAt (w : World) (A : Option Addr) (m : Nat) (bs : List UInt8) : Prop :=
  bs.length = m ∧ (0 < m → ∃ b o, A = some ⟨b, o, none⟩ ∧ b < w.heap.size ∧ ∀ i c, bs[i]? = some c → w.cell? ⟨b, o + i, none⟩ = some (u8V c))
/-- A slice of whole numbers in memory. -/
def IntsAt (w : World) (A : Option Addr) (n : Nat) (zs : List Int) : Prop :=
  zs.length = n ∧ (0 < n → ∃ b o, A = some ⟨b, o, none⟩ ∧ b < w.heap.size ∧ ∀ i z, zs[i]? = some z → w.cell? ⟨b, o + i, none⟩ = some (.int .i64 z))
theorem byte_info : (Try.prog.info? 5).map (fun i => (i.zero, i.size, i.bytes)) = some (some (.int .u8 0), 1, 1) := by kernel_rfl
theorem u8V_one (c : UInt8) : (u8V c).oneCell' = true := rfl
theorem append_bytes {w : World} {v : Value} {xs bs : List UInt8} {A : Option Addr} {m c : Nat} (ty : TypeId) (hown : w.ownsRow 0 5 1 v xs.length (xs.map u8V)) (hs : BytesAt w A m bs) (hl : xs.length + m ≤ 1000000000) :
    ∃ A' c' w', (Builtin.append_ #[38, 38] ty #[v, .slice A m c]).run Try.prog w = .ok (.slice A' (xs.length + m) c') w' ∧ w'.ownsRow 0 5 1 (.slice A' (xs.length + m) c') (xs ++ bs).length ((xs ++ bs).map u8V) ∧ w.grownBy w' v.ownBlock ∧
      ((Value.slice A' (xs.length + m) c').ownBlock = v.ownBlock ∨ (Value.slice A' (xs.length + m) c').ownBlock = some w.heap.size) := by
  obtain ⟨i0, hi0, hz0, hz1, hz2⟩ := info_parts byte_info
  have hbl := hs.1
  have fin : ∀ v' w', (Builtin.append_ #[38, 38] ty #[v, .slice A m c]).run Try.prog w = .ok v' w' → w'.ownsRow 0 5 1 v' (xs.length + m) (xs.map u8V ++ bs.map u8V) → w.grownBy w' v.ownBlock → (v'.ownBlock = v.ownBlock ∨ v'.ownBlock = some w.heap.size) →
      ∃ A' c' w', (Builtin.append_ #[38, 38] ty #[v, .slice A m c]).run Try.prog w = .ok (.slice A' (xs.length + m) c') w' ∧ w'.ownsRow 0 5 1 (.slice A' (xs.length + m) c') (xs ++ bs).length ((xs ++ bs).map u8V) ∧ w.grownBy w' v.ownBlock ∧
      ((Value.slice A' (xs.length + m) c').ownBlock = v.ownBlock ∨ (Value.slice A' (xs.length + m) c').ownBlock = some w.heap.size) := by
    intro v' w' h1 h2 h3 h4
    obtain ⟨A', c', e, _⟩ := row_shape h2
    subst e
    refine ⟨A', c', w', h1, ?_, h3, h4⟩
    rw [List.length_append, List.map_append, hbl]; exact h2
  cases A with
  | none =>
    obtain rfl : m = 0 := by
      rcases Nat.eq_zero_or_pos m with h0 | h0
      · exact h0
      · obtain ⟨b, o, h, _⟩ := hs.2 h0; cases h
    obtain rfl : bs = [] := List.eq_nil_of_length_eq_zero hbl
    refine fin v w ?_ (by simpa using hown) (World.grownBy.refl w _) (.inl rfl)
    rcases hown.2 with ⟨rfl, _⟩ | ⟨g, cap, cur, rfl, _, _, hnc, _⟩
    · simp [Builtin.append_, run_underlying Try.underlying38, sizeOf, typeInfo, hi0, Builtin.lenOf, Builtin.firstCells]
    · simp [Builtin.append_, run_underlying Try.underlying38, sizeOf, typeInfo, hi0, Builtin.lenOf, Builtin.firstCells, hnc, storeCells]
  | some ad =>
    obtain ⟨v', w', h1, h2, h3, _, h5⟩ := run_append_own_at (P := Try.prog) w 0 38 ty 5 i0 _ 1 1 Try.underlying38 hi0 hz0 hz1 hz2 rfl (by decide) v xs.length (xs.map u8V) hown ad m c (bs.map u8V) (by simp [hbl]) (fun j u hu => by
      obtain ⟨x, hx, rfl⟩ : ∃ x, bs[j]? = some x ∧ u8V x = u := by simpa using hu
      have hj : 0 < m := by
        have := (List.getElem?_eq_some_iff.1 hx).1
        rw [hbl] at this
        exact Nat.lt_of_le_of_lt (Nat.zero_le _) this
      obtain ⟨b, o, e, _, hc⟩ := hs.2 hj
      have e := Option.some.inj e
      subst e
      have h9 := hc j x hx
      unfold Addr.add
      split
      · rename_i h0; subst h0; exact h9
      · exact h9) (fun u hu => by obtain ⟨x, _, rfl⟩ := List.mem_map.1 hu; rfl) (by unfold maxLen; omega) (by omega) (Nat.zero_le _)
    exact fin v' w' h1 h2 h3 h5
/-- An append at a step of a region that draws its order, its run known. -/
theorem step_append_run {w w' : World} {ops : Array Oper} {o : Oper} {a : Act} {K : Act → World → Prop} {Q : Exit → Act → World → Prop} {E : Prop} (hgd : o.guard = none) (s x : Operand) (t : TypeId)
    (ho : o.op = .call { callee := .builtin .append, args := #[s, x], argTypes := #[t, t] }) (v u r : Value) (hs : a.eval s = v) (hx : a.eval x = u)
    (hrun : (Builtin.append_ #[t, t] o.type #[v, u]).run Try.prog w = .ok r w') (h : K (a.put o.dst r) w') : if Region.wanted o (yielded ops a.tmps) = true then Oper.wp Try.prog o a w K Q else E := by
  have hw : Region.wanted o (yielded ops a.tmps) = true := by simp [Region.wanted, hgd]
  rw [if_pos hw]
  unfold Oper.wp execOp
  simp only [ho, resolve, invoke, builtin, Sem.run_bind, Sem.run_pure, Result.andThen_ok, List.map_toArray, List.map_cons, List.map_nil, hs, hx, hrun]
  exact h
theorem BytesAt.up {w w' : World} {A : Option Addr} {m : Nat} {bs : List UInt8} (h : BytesAt w A m bs) (hb : ∀ b, b < w.heap.size → w'.heap[b]? = w.heap[b]?) (hs : w.heap.size ≤ w'.heap.size) : BytesAt w' A m bs :=
  ⟨h.1, fun hm => by
    obtain ⟨b, o, e, hlt, hc⟩ := h.2 hm
    exact ⟨b, o, e, Nat.lt_of_lt_of_le hlt hs, fun i c hi => (World.cell?_of_block (a := ⟨b, o + i, none⟩) (hb b hlt)).trans (hc i c hi)⟩⟩
/-- .. and while some blocks turn in which it doesn't lie. -/
theorem BytesAt.keep {w w' : World} {A : Option Addr} {m : Nat} {bs : List UInt8} (h : BytesAt w A m bs) (hb : 0 < m → ∀ b o, A = some ⟨b, o, none⟩ → b < w.heap.size → w'.heap[b]? = w.heap[b]?) (hs : w.heap.size ≤ w'.heap.size) : BytesAt w' A m bs :=
  ⟨h.1, fun hm => by
    obtain ⟨b, o, e, hlt, hc⟩ := h.2 hm
    exact ⟨b, o, e, Nat.lt_of_lt_of_le hlt hs, fun i c hi => (World.cell?_of_block (a := ⟨b, o + i, none⟩) (hb hm b o e hlt)).trans (hc i c hi)⟩⟩
/-- An append whose run is known. -/
theorem wpList_append_run {w w' : World} {ops : Array Oper} {rest : List Oper} {o : Oper} {a : Act} {Q : Exit → Act → World → Prop} (hgd : o.guard = none) (s x : Operand) (t : TypeId)
    (ho : o.op = .call { callee := .builtin .append, args := #[s, x], argTypes := #[t, t] }) (v u r : Value) (hs : a.eval s = v) (hx : a.eval x = u)
    (hrun : (Builtin.append_ #[t, t] o.type #[v, u]).run Try.prog w = .ok r w') (h : wpList Try.prog ops Q rest (a.put o.dst r) w') : wpList Try.prog ops Q (o :: rest) a w := by
  refine wpList_plain hgd fun K hK => ?_
  unfold Oper.wp execOp
  simp only [ho, resolve, invoke, builtin, Sem.run_bind, Sem.run_pure, Result.andThen_ok, List.map_toArray, List.map_cons, List.map_nil, hs, hx, hrun]
  exact hK _ _ h
theorem row_bytes {w : World} {B : Nat} {v : Value} {xs : List UInt8} (h : w.ownsRow B 5 1 v xs.length (xs.map u8V)) : ∃ A c, v = .slice A xs.length c ∧ BytesAt w A xs.length xs ∧ ∀ b o, A = some ⟨b, o, none⟩ → B ≤ b := by
  rcases h.2 with ⟨e, h0⟩ | ⟨g, cap, cur, e, hB, hg, _, _, h3, h4⟩
  · refine ⟨none, 0, by rw [h0]; exact e, ⟨rfl, fun hm => by omega⟩, fun b o he => by cases he⟩
  · refine ⟨_, cap, e, ⟨rfl, fun _ => ⟨g, 0, rfl, (Array.getElem?_eq_some_iff.1 hg).1, fun i c hi => ?_⟩⟩, fun b o he => by injection he with he; injection he with he _ _; rw [← he]; exact hB⟩
    rw [cell_of_row w g (0 + i) cur 5 (0, 0) hg]
    have h5 : (cur.toList.take (xs.length * 1))[i]? = some (u8V c) := by rw [h4, List.getElem?_map, hi]; rfl
    have hl := (List.getElem?_eq_some_iff.1 hi).1
    rw [List.getElem?_take_of_lt (by omega)] at h5
    rw [Nat.zero_add, ← Array.getElem?_toList]
    exact h5
theorem row_base {w : World} {B B' : Nat} {v : Value} {e : TypeId} {n : Nat} {xs : List Value} (h : w.ownsRow B e 1 v n xs) (hB : B' ≤ B) : w.ownsRow B' e 1 v n xs := by
  refine ⟨h.1, ?_⟩
  rcases h.2 with h0 | ⟨g, cap, cur, e, h1, h2⟩
  · exact .inl h0
  · exact .inr ⟨g, cap, cur, e, Nat.le_trans hB h1, h2⟩
/-- A row's base is where its block lies. -/
theorem row_at {w : World} {B : Nat} {v : Value} {e : TypeId} {n : Nat} {xs : List Value} (h : w.ownsRow 0 e 1 v n xs) (hB : ∀ r, v.ownBlock = some r → B ≤ r) : w.ownsRow B e 1 v n xs := by
  refine ⟨h.1, ?_⟩
  rcases h.2 with h0 | ⟨g, cap, cur, e, h1, h2⟩
  · exact .inl h0
  · exact .inr ⟨g, cap, cur, e, hB g (by rw [e]; rfl), h2⟩
/-- Bytes that stand in a block of their own. -/
theorem bytes_new (w : World) (bs : List UInt8) (fz : Nat × Nat) : BytesAt (w.alloc (.cells (bs.map u8V).toArray 5 fz)) (some ⟨w.heap.size, 0, none⟩) bs.length bs :=
  ⟨rfl, fun _ => ⟨w.heap.size, 0, rfl, by simp, fun i c hi => by
    rw [Nat.zero_add, cell_of_row _ w.heap.size i (bs.map u8V).toArray 5 fz (heap_alloc_new w _)]
    simp [hi]⟩⟩
/-- A text out of bytes. -/
theorem conv_str {w : World} {A : Option Addr} {m : Nat} {bs : List UInt8} (h : BytesAt w A m bs) (c : Nat) : (convert 38 9 (.slice A m c)).run Try.prog w = .ok (.string ⟨bs.toArray⟩) w := by
  obtain rfl := h.1
  cases A with
  | none =>
    obtain rfl : bs = [] := List.eq_nil_of_length_eq_zero (by
      rcases Nat.eq_zero_or_pos bs.length with h0 | h0
      · exact h0
      · obtain ⟨b, o, e, _⟩ := h.2 h0; cases e)
    exact run_convert_bytes_nil w 38 5 Try.underlying38 Try.underlying5 0 c 9 Try.underlying9
  | some ad =>
    refine run_convert_bytes_back w 38 9 5 ad c bs Try.underlying38 Try.underlying5 Try.underlying9 (fun j hj => ?_)
    obtain ⟨b, o, e, _, hc⟩ := h.2 (by omega)
    have e := Option.some.inj e
    subst e
    have h9 := hc j bs[j] (List.getElem?_eq_getElem hj)
    unfold Addr.add
    split
    · rename_i h0; subst h0; exact h9
    · exact h9
theorem conv_const (w : World) (C : Array Value) (n c : Nat) : (convert 38 38 (.slice (some ⟨w.heap.size, 0, none⟩) n c)).run Try.prog (w.alloc (.cells C 5)) = .ok (.slice (some ⟨w.heap.size, 0, none⟩) n c) (w.alloc (.cells C 5 (C.size, C.size + 1))) :=
  Lib.run_convert_bytes_const w 38 5 C n c Try.underlying38 Try.underlying5
theorem BytesAt.below {w w' : World} {A : Option Addr} {m : Nat} {bs : List UInt8} (h : BytesAt w A m bs) (hb : Below w.heap.size w w') : BytesAt w' A m bs := h.up (fun b hlt => hb.block b hlt) hb.size
theorem BytesAt.kept {w w' : World} {X : Nat → Prop} {A : Option Addr} {m : Nat} {bs : List UInt8} (h : BytesAt w A m bs) (hk : Kept X w w') (hX : ∀ b o, A = some ⟨b, o, none⟩ → ¬ X b) : BytesAt w' A m bs := h.keep (fun _ b o e hlt => hk.block b hlt (hX b o e)) hk.size
theorem BytesAt.cut {w : World} {A : Option Addr} {m k : Nat} {bs : List UInt8} (h : BytesAt w A m bs) (hk : k ≤ m) : BytesAt w A k (bs.take k) :=
  ⟨by rw [List.length_take, h.1]; omega, fun hk0 => by
    obtain ⟨b, o, e, hlt, hc⟩ := h.2 (by omega)
    refine ⟨b, o, e, hlt, fun i c hi => hc i c ?_⟩
    have := (List.getElem?_eq_some_iff.1 hi).1
    rw [List.length_take] at this
    rw [List.getElem?_take_of_lt (by omega)] at hi
    exact hi⟩
theorem BytesAt.drop_ {w : World} {bs : List UInt8} {b o m k : Nat} (h : BytesAt w (some ⟨b, o, none⟩) m bs) (hk : k ≤ m) : BytesAt w (some ⟨b, o + k, none⟩) (m - k) (bs.drop k) :=
  ⟨by rw [List.length_drop, h.1], fun hm => by
    obtain ⟨b', o', e, hlt, hc⟩ := h.2 (by omega)
    injection e with e
    injection e with e1 e2 _
    subst e1 e2
    refine ⟨_, _, rfl, hlt, fun i c hi => ?_⟩
    rw [List.getElem?_drop] at hi
    rw [Nat.add_assoc]
    exact hc _ c hi⟩
end Go.Proofs.Ytponepcgokfiiaa
namespace Go.Proofs.Ytponepcgokfiiaa
open Go.RowKit

def preB (t s : List UInt8) : Bool := t.isPrefixOf s
theorem hasPrefixL_any (s t : ByteArray) (w : World) :
    Calls Try.prog 128 #[.string s, .string t] w fun e w' => e = .returned (.bool (preB t.data.toList s.data.toList)) ∧ w = w' := by
  by_cases h : t.size ≤ s.size
  · have hx : ((s.extract 0 t.size).toList == t.toList) = preB t.data.toList s.data.toList := by
      have h1 : (s.extract 0 t.size).toList = s.data.toList.take t.size := by
        rw [ByteArray.toList_eq]; simp [ByteArray.data_extract]
      rw [h1, ByteArray.toList_eq, preB, Bool.eq_iff_iff, List.isPrefixOf_iff_prefix, List.prefix_iff_eq_take]
      simp only [beq_iff_eq]
      exact eq_comm
    have HX := Lib.hid hx
    clear hx
    go_enter Try.func128, Try.ntmps128
    go_wp2
    go_ret
    exact ⟨ret_bool HX.out, rfl⟩
  · have hx : preB t.data.toList s.data.toList = false := by
      rw [Bool.eq_false_iff]; intro h1
      rw [preB, List.isPrefixOf_iff_prefix] at h1
      have := h1.length_le
      exact h this
    have HX := Lib.hid hx
    clear hx
    have h' : ¬ t.size ≤ s.size := h
    go_enter Try.func128, Try.ntmps128
    go_wp2
    go_ret
    exact ⟨ret_bool HX.out.symm, rfl⟩
theorem hasPrefix_any (s t : ByteArray) (w : World) :
    Calls Try.prog 124 #[.string s, .string t] w fun e w' => e = .returned (.bool (preB t.data.toList s.data.toList)) ∧ w = w' := by
  go_enter Try.func124, Try.ntmps124
  go_wp2_with fail
  refine (hasPrefixL_any s t _).mono ?_
  rintro e w' ⟨rfl, rfl⟩
  go_wp2
  go_ret
  exact ⟨rfl, rfl⟩

/-- The cursor in block b: the text s, the place k. -/
def Cur (w : World) (b : Nat) (s : ByteArray) (k : Nat) : Prop := Blk w b 150 #[.string s, .int .i64 (k : Nat)]
theorem Cur.c0 {w : World} {b k : Nat} {s : ByteArray} (h : Cur w b s k) : w.cell? ⟨b, 0, none⟩ = some (.string s) := Blk.cell h 0
theorem Cur.c1 {w : World} {b k : Nat} {s : ByteArray} (h : Cur w b s k) : w.cell? ⟨b, 1, none⟩ = some (.int .i64 (k : Nat)) := Blk.cell h 1
theorem Cur.f1 {w : World} {b k : Nat} {s : ByteArray} (h : Cur w b s k) : w.frozen? ⟨b, 1, none⟩ = false := Blk.frozen h 1
theorem Cur.set_ {w : World} {b k : Nat} {s : ByteArray} (h : Cur w b s k) (j : Nat) : Cur (w.setCell ⟨b, 1, none⟩ (.int .i64 (j : Nat))) b s j := Blk.set_ h 1 _

def restL (s : ByteArray) (k : Nat) : List UInt8 := s.data.toList.drop k
def overB (s : ByteArray) (k : Nat) : Bool := k == s.size
def isB (t : List UInt8) (s : ByteArray) (k : Nat) : Bool := preB t (restL s k)
theorem rest_extract (s : ByteArray) (k : Nat) : (s.extract k s.size).data.toList = restL s k := by
  rw [ByteArray.data_extract]
  simp only [Array.toList_extract, List.extract_eq_take_drop, restL]
  exact List.take_of_length_le (by simp)
theorem isB_le {t : List UInt8} {s : ByteArray} {k : Nat} (h : isB t s k = true) : t.length ≤ s.size - k := by
  unfold isB preB restL at h
  rw [List.isPrefixOf_iff_prefix] at h
  have := h.length_le
  rw [List.length_drop] at this
  exact this

theorem over_any (b k : Nat) (s : ByteArray) (w : World) (hc : Cur w b s k) :
    Calls Try.prog 76 #[.pointer (some ⟨b, 0, none⟩)] w fun e w' => e = .returned (.bool (overB s k)) ∧ ∃ n, w' = w.drewN n := by
  have c0 := hc.c0
  have c1 := hc.c1
  have HX := Lib.hid (show (((k : Nat) : Int) == ((s.size : Nat) : Int)) = overB s k by rw [Bool.eq_iff_iff]; simp [overB]; omega)
  go_enter Try.func76, Try.ntmps76
  go_wp2
  go_quiet (fail)
  go_wp2
  go_ret
  exact ⟨ret_bool HX.out, _, rfl⟩
theorem is_any (b k : Nat) (s t : ByteArray) (w : World) (hc : Cur w b s k) (hk : k ≤ s.size) :
    Calls Try.prog 114 #[.pointer (some ⟨b, 0, none⟩), .string t] w fun e w' => e = .returned (.bool (isB t.data.toList s k)) ∧ ∃ n, w' = w.drewN n := by
  have c0 := hc.c0
  have c1 := hc.c1
  have hc2 := fun W => hasPrefix_any (s.extract k s.size) t W
  rw [rest_extract] at hc2
  have HC := Lib.hid hc2
  clear hc2
  go_enter Try.func114, Try.ntmps114
  go_wp2
  go_quiet ((go_at_call 124; exact Calls.quiet_of_same ((HC.out _).mono (fun _ _ h => ⟨h.1, h.2.symm⟩))))
  go_wp2
  go_ret
  exact ⟨rfl, _, rfl⟩
theorem skip_no (b k : Nat) (s t : ByteArray) (w : World) (hc : Cur w b s k) (hk : k ≤ s.size) (h : isB t.data.toList s k = false) :
    Calls Try.prog 97 #[.pointer (some ⟨b, 0, none⟩), .string t] w fun e w' => e = .returned (.bool false) ∧ Cur w' b s k ∧ w.grownBy w' (some b) := by
  go_enter Try.func97, Try.ntmps97
  go_wp2_with fail
  refine (is_any b k s t _ hc hk).mono ?_
  rintro e w' ⟨rfl, n, rfl⟩
  go_wp2
  go_ret
  exact ⟨rfl, Blk.drewN hc _, gb_drewN (gb_refl _ _) _⟩
theorem skip_yes (b k : Nat) (s t : ByteArray) (w : World) (hc : Cur w b s k) (hk : k ≤ s.size) (hs : s.size ≤ maxLen) (h : isB t.data.toList s k = true) :
    Calls Try.prog 97 #[.pointer (some ⟨b, 0, none⟩), .string t] w fun e w' => e = .returned (.bool true) ∧ Cur w' b s (k + t.size) ∧ w.grownBy w' (some b) := by
  have c1 := hc.c1
  have f1 := hc.f1
  have hl : t.size ≤ s.size - k := isB_le h
  have hs' := hs
  unfold maxLen at hs'
  go_enter Try.func97, Try.ntmps97
  go_wp2_with fail
  refine (is_any b k s t _ hc hk).mono ?_
  rintro e w' ⟨rfl, n, rfl⟩
  go_wp2
  go_ret
  exact ⟨rfl, Cur.set_ (Blk.drewN hc _) (k + t.size), gb_set (gb_drewN (gb_refl _ _) _) (.inl rfl) _⟩

def byteAt (s : ByteArray) (k : Nat) : UInt8 := (restL s k).headD 0
theorem byteAt_eq (s : ByteArray) (k : Nat) (h : k < s.size) : s[k] = byteAt s k := by
  have h' : k < s.data.toList.length := h
  unfold byteAt restL
  rw [List.drop_eq_getElem_cons h']
  simp
  rfl
theorem rest_cons (s : ByteArray) (k : Nat) (h : k < s.size) : restL s k = byteAt s k :: restL s (k + 1) := by
  have h' : k < s.data.toList.length := h
  unfold byteAt restL
  rw [List.drop_eq_getElem_cons h']
  simp
theorem rest_nil (s : ByteArray) (k : Nat) (h : s.size ≤ k) : restL s k = [] := List.drop_eq_nil_of_le h
theorem take_yes (b k : Nat) (s : ByteArray) (w : World) (hc : Cur w b s k) (hk : k < s.size) (hs : s.size ≤ maxLen) :
    Calls Try.prog 116 #[.pointer (some ⟨b, 0, none⟩)] w fun e w' => e = .returned (.int .u8 (byteAt s k).toNat) ∧ Cur w' b s (k + 1) ∧ w.grownBy w' (some b) := by
  have c0 := hc.c0
  have c1 := hc.c1
  have f1 := hc.f1
  have hb := byteAt_eq s k hk
  have ho : overB s k = false := by simp [overB]; omega
  unfold maxLen at hs
  go_enter Try.func116, Try.ntmps116
  go_wp2_with fail
  refine (over_any b k s _ hc).mono ?_
  rintro e w' ⟨rfl, n, rfl⟩
  go_wp2
  go_quiet (fail)
  go_wp2
  go_ret
  exact ⟨rfl, Blk.drewN (Cur.set_ (Blk.drewN hc _) (k + 1)) _, gb_drewN (gb_set (gb_drewN (gb_refl _ _) _) (.inl rfl) _) _⟩
/-- What a parser panics with. -/
abbrev flawE (code : Int) (k : Nat) : Ending := .panicked [{ v := .iface 147 (.agg #[.int .i64 code, .int .i64 (k : Nat)]), recovered := false }]
theorem flaw_eq {c : Int} {a b : Nat} (h : a = b) : flawE c a = flawE c b := by rw [h]
theorem take_no (b k : Nat) (s : ByteArray) (w : World) (hc : Cur w b s k) (hk : k = s.size) :
    Calls Try.prog 116 #[.pointer (some ⟨b, 0, none⟩)] w fun e w' => e = flawE 31 k ∧ Cur w' b s k ∧ w.grownBy w' (some b) := by
  have c0 := hc.c0
  have c1 := hc.c1
  have f1 := hc.f1
  have ho : overB s k = true := by simp [overB]; omega
  clear hk
  go_enter Try.func116, Try.ntmps116
  go_wp2_with fail
  refine (over_any b k s _ hc).mono ?_
  rintro e w' ⟨rfl, n, rfl⟩
  go_wp2
  exact ⟨rfl, rfl, Blk.drewN hc _, gb_drewN (gb_refl _ _) _⟩
end Go.Proofs.Ytponepcgokfiiaa
namespace Go.Proofs.Ytponepcgokfiiaa

/-- A letter: the byte and how many bytes it takes; or an error and its place from here on. -/
inductive Lr where
  | ok (c : UInt8) (n : Nat)
  | err (code : Int) (off : Nat)
deriving DecidableEq
/-- A range, likewise. -/
inductive Rr where
  | ok (lo hi : UInt8) (n : Nat)
  | err (code : Int) (off : Nat)
deriving DecidableEq

def starts (t l : List UInt8) : Bool := t.isPrefixOf l

def letterG : List UInt8 → Lr
  | [] => .err 31 0
  | c :: t => if c = 92 then (match t with | [] => .err 31 1 | d :: _ => .ok d 2) else .ok c 1

/-- Does a range go on here: a - that no ] is behind? -/
def dashB (t : List UInt8) : Bool := starts [45] t && !starts [45, 93] t

def rangeP (L : List UInt8 → Lr) (l : List UInt8) : Rr :=
  match L l with
  | .err c o => .err c o
  | .ok lo n =>
    if dashB (l.drop n) then
      match L (l.drop (n + 1)) with
      | .err c o => .err c (n + 1 + o)
      | .ok hi m => if hi < lo then .err 32 0 else .ok lo hi (n + 1 + m)
    else .ok lo lo n

/-- A reading of letters that takes at least one byte, and no more than there are. -/
def GoodL (L : List UInt8 → Lr) : Prop := ∀ l, (∀ c n, L l = .ok c n → 1 ≤ n ∧ n ≤ l.length) ∧ (∀ c o, L l = .err c o → o ≤ l.length)
theorem good_letterG : GoodL letterG := by
  intro l
  match l with
  | [] => exact ⟨fun c n h => by simp [letterG] at h, fun c o h => by simp [letterG] at h; omega⟩
  | [x] =>
    by_cases hx : x = 92
    · exact ⟨fun c n h => by simp [letterG, hx] at h, fun c o h => by simp [letterG, hx] at h; simp; omega⟩
    · exact ⟨fun c n h => by simp [letterG, hx] at h; simp; omega, fun c o h => by simp [letterG, hx] at h⟩
  | x :: y :: t =>
    by_cases hx : x = 92
    · exact ⟨fun c n h => by simp [letterG, hx] at h; simp; omega, fun c o h => by simp [letterG, hx] at h⟩
    · exact ⟨fun c n h => by simp [letterG, hx] at h; simp; omega, fun c o h => by simp [letterG, hx] at h⟩
theorem rangeP_ok {L : List UInt8 → Lr} (hL : GoodL L) {l : List UInt8} {lo hi : UInt8} {n : Nat} (h : rangeP L l = .ok lo hi n) : 1 ≤ n ∧ n ≤ l.length := by
  unfold rangeP at h
  split at h
  · cases h
  · rename_i lo' n' h1
    have a1 := (hL l).1 _ _ h1
    split at h
    · split at h
      · cases h
      · rename_i hi' m h2
        have a2 := (hL _).1 _ _ h2
        split at h
        · cases h
        · injection h with _ _ h3
          rw [List.length_drop] at a2
          omega
    · injection h with _ _ h3
      omega
theorem rangeP_err {L : List UInt8 → Lr} (hL : GoodL L) {l : List UInt8} {c : Int} {o : Nat} (h : rangeP L l = .err c o) : o ≤ l.length := by
  unfold rangeP at h
  split at h
  · rename_i c' o' h1
    injection h with _ h3
    have := (hL l).2 _ _ h1
    omega
  · rename_i lo' n' h1
    have a1 := (hL l).1 _ _ h1
    split at h
    · rename_i hd
      have hnl : n' + 1 ≤ l.length := by
        have hp : starts [45] (l.drop n') = true := by simp only [dashB, Bool.and_eq_true] at hd; exact hd.1
        unfold starts at hp
        rw [List.isPrefixOf_iff_prefix] at hp
        have := hp.length_le
        rw [List.length_drop] at this
        simp at this; omega
      split at h
      · rename_i c2 o2 h2
        have a2 := (hL _).2 _ _ h2
        injection h with _ h3
        rw [List.length_drop] at a2
        omega
      · split at h
        · injection h with _ h3
          omega
        · cases h
    · cases h

/-- The items of a class up to its ]: the ranges, and how many bytes they take with the ]. 'first': none was read yet (then a ] is an item). -/
inductive Ir where
  | ok (rs : List (UInt8 × UInt8)) (n : Nat)
  | err (code : Int) (off : Nat)
deriving DecidableEq
def Ir.more (lo hi : UInt8) (n : Nat) : Ir → Ir
  | .ok rs m => .ok ((lo, hi) :: rs) (n + m)
  | .err c o => .err c (n + o)
/-- fuel: more than the bytes that are left. -/
def itemsP (L : List UInt8 → Lr) : Nat → Bool → List UInt8 → Ir
  | 0, _, _ => .err 0 0
  | f + 1, first, l =>
    if !first && starts [93] l then .ok [] 1
    else match rangeP L l with
      | .err c o => .err c o
      | .ok lo hi n => (itemsP L f false (l.drop n)).more lo hi n
theorem itemsP_fuel {L : List UInt8 → Lr} (hL : GoodL L) : ∀ (f g : Nat) (b : Bool) (l : List UInt8), l.length < f → l.length < g → itemsP L f b l = itemsP L g b l := by
  intro f
  induction f with
  | zero => intro g b l h; omega
  | succ f ih =>
    intro g b l hf hg
    match g, hg with
    | g + 1, hg =>
      unfold itemsP
      split
      · rfl
      · split
        · rfl
        · rename_i lo hi n h
          have := rangeP_ok hL h
          rw [ih g false (l.drop n) (by rw [List.length_drop]; omega) (by rw [List.length_drop]; omega)]

/-! Ranges of bytes -/
def inR (rs : List (UInt8 × UInt8)) (c : Nat) : Bool := rs.any fun r => decide (r.1.toNat ≤ c) && decide (c ≤ r.2.toNat)
/-- The last range goes up to k. -/
def bump (l : List (UInt8 × UInt8)) (k : Nat) : List (UInt8 × UInt8) := l.dropLast ++ [((l.getLast?.getD (0, 0)).1, UInt8.ofNat k)]
def rgTo (m : Nat → Bool) : Nat → List (UInt8 × UInt8)
  | 0 => []
  | k + 1 => if m k then (if decide (0 < k) && m (k - 1) then bump (rgTo m k) k else rgTo m k ++ [(UInt8.ofNat k, UInt8.ofNat k)]) else rgTo m k
def memB (rs : List (UInt8 × UInt8)) (neg : Bool) (c : Nat) : Bool := inR rs c != neg
def rangesL (rs : List (UInt8 × UInt8)) (neg : Bool) : List (UInt8 × UInt8) := rgTo (memB rs neg) 256
theorem rgTo_length (m : Nat → Bool) (k : Nat) : (rgTo m k).length ≤ k := by
  induction k with
  | zero => simp [rgTo]
  | succ k ih =>
    rw [rgTo]
    split
    · split
      · rename_i h1 h2
        rcases Nat.eq_zero_or_pos k with h | h
        · subst h; simp at h2
        · simp only [bump, List.length_append, List.length_dropLast, List.length_singleton]; omega
      · simp; omega
    · omega
/-- Where k - 1 is in, the list isn't empty and its last range ends there. -/
theorem rgTo_last (m : Nat → Bool) (k : Nat) (h : m k = true) : ∃ l lo, rgTo m (k + 1) = l ++ [(lo, UInt8.ofNat k)] := by
  rw [rgTo, if_pos h]
  split
  · exact ⟨_, _, rfl⟩
  · exact ⟨_, _, rfl⟩
end Go.Proofs.Ytponepcgokfiiaa
