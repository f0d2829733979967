/- Bytes in memory: what a slice of them reads as, what keeps it, append, texts; what stays but for some blocks. -/
import Derived.Test.YtjnhmcgjeljcmaaBk
import Derived.Maps.AppendAt
import Derived.Deep.RegionHeld3
import Derived.Lib.SlBytesConst
import Derived.Laws.BytesArg
namespace Go.Proofs.Ytjnhmcgjeljcmaa
open Go.RowKit Go.Maps

def u8V (c : UInt8) : Value := .int .u8 c.toNat
/-- What stays but for some blocks. -/
structure Kept (X : Nat → Prop) (w w' : World) : Prop where
  os : w'.os = w.os
  tape : w'.tape = w.tape
  output : w'.output = w.output
  size : w.heap.size ≤ w'.heap.size
  block : ∀ j, j < w.heap.size → ¬ X j → w'.heap[j]? = w.heap[j]?
section
variable {w w' w2 : World} {X Y : Nat → Prop}
theorem Kept.refl (X : Nat → Prop) (w : World) : Kept X w w := ⟨rfl, rfl, rfl, Nat.le_refl _, fun _ _ _ => rfl⟩
theorem Kept.trans (h : Kept X w w') (k : Kept Y w' w2) (hy : ∀ j, Y j → X j ∨ w.heap.size ≤ j) : Kept X w w2 :=
  ⟨k.os.trans h.os, k.tape.trans h.tape, k.output.trans h.output, Nat.le_trans h.size k.size, fun j hj hx =>
    (k.block j (Nat.lt_of_lt_of_le hj h.size) (fun y => by rcases hy j y with h1 | h1; exact hx h1; omega)).trans (h.block j hj hx)⟩
theorem Kept.mono (h : Kept X w w') (hx : ∀ j, j < w.heap.size → X j → Y j) : Kept Y w w' := ⟨h.os, h.tape, h.output, h.size, fun j hj hn => h.block j hj (fun x => hn (hx j hj x))⟩
theorem Kept.alloc (h : Kept X w w') (o : Obj) : Kept X w (w'.alloc o) := ⟨h.os, h.tape, h.output, Nat.le_trans h.size (by simp), fun j hj hx => (Below.heap_alloc w' o j (Nat.lt_of_lt_of_le hj h.size)).trans (h.block j hj hx)⟩
theorem Kept.drewN (h : Kept X w w') (n : Nat) : Kept X w (w'.drewN n) := ⟨h.os, h.tape, h.output, h.size, h.block⟩
theorem Kept.drew (h : Kept X w w') : Kept X w w'.drew := ⟨h.os, h.tape, h.output, h.size, h.block⟩
theorem Kept.set_ (h : Kept X w w') {p : Addr} (hp : X p.block ∨ w.heap.size ≤ p.block) (u : Value) : Kept X w (w'.setCell p u) :=
  ⟨h.os, h.tape, h.output, by simpa [World.setCell] using h.size, fun j hj hx => (Below.heap_setCell w' p u j (by
    rintro rfl
    rcases hp with h1 | h1
    · exact hx h1
    · omega)).trans (h.block j hj hx)⟩
theorem Kept.grown (h : Kept X w w') {row : Option Nat} (g : w'.grownBy w2 row) (hr : ∀ j, row = some j → X j ∨ w.heap.size ≤ j) : Kept X w w2 :=
  ⟨g.os.trans h.os, g.tape.trans h.tape, g.output.trans h.output, Nat.le_trans h.size g.size, fun j hj hx => (g.block j (Nat.lt_of_lt_of_le hj h.size) (fun e => by
    rcases hr j e.symm with h1 | h1
    · exact hx h1
    · omega)).trans (h.block j hj hx)⟩
theorem Kept.below {B : Nat} (h : Kept X w w') (hB : B ≤ w.heap.size) (hx : ∀ j, X j → B ≤ j) : Below B w w' :=
  ⟨h.os, h.tape, h.output, h.size, fun j hj => h.block j (Nat.lt_of_lt_of_le hj hB) (fun x => by have := hx j x; omega)⟩
theorem kept_below (h : Below w.heap.size w w') : Kept X w w' := ⟨h.os, h.tape, h.output, h.size, fun j hj _ => h.block j hj⟩
end
theorem row_shape {w : World} {v : Value} {n : Nat} {xs : List Value} (h : w.ownsRow 0 5 1 v n xs) : ∃ A c, v = .slice A n c ∧ n ≤ c ∧ c ≤ maxLen := by
  rcases h.2 with ⟨e, rfl⟩ | ⟨g, cap, cur, e, _, _, h1, h2, _⟩
  · exact ⟨none, 0, e, Nat.le_refl _, by decide⟩
  · exact ⟨_, cap, e, h1, h2⟩
/-- A slice of bytes in memory. -/
def BytesAt (w : World) (A : Option Addr) (m : Nat) (bs : List UInt8) : Prop :=
  bs.length = m ∧ (0 < m → ∃ b o, A = some ⟨b, o, none⟩ ∧ b < w.heap.size ∧ ∀ i c, bs[i]? = some c → w.cell? ⟨b, o + i, none⟩ = some (u8V c))
/-- A slice of whole numbers in memory. -/
def IntsAt (w : World) (A : Option Addr) (n : Nat) (zs : List Int) : Prop :=
  zs.length = n ∧ (0 < n → ∃ b o, A = some ⟨b, o, none⟩ ∧ b < w.heap.size ∧ ∀ i z, zs[i]? = some z → w.cell? ⟨b, o + i, none⟩ = some (.int .i64 z))
theorem byte_info : (Try.prog.info? 5).map (fun i => (i.zero, i.size, i.bytes)) = some (some (.int .u8 0), 1, 1) := by kernel_rfl
theorem u8V_one (c : UInt8) : (u8V c).oneCell' = true := rfl
theorem append_bytes {w : World} {v : Value} {xs bs : List UInt8} {A : Option Addr} {m c : Nat} (ty : TypeId) (hown : w.ownsRow 0 5 1 v xs.length (xs.map u8V)) (hs : BytesAt w A m bs) (hl : xs.length + m ≤ 1000000000) :
    ∃ A' c' w', (Builtin.append_ #[51, 51] ty #[v, .slice A m c]).run Try.prog w = .ok (.slice A' (xs.length + m) c') w' ∧ w'.ownsRow 0 5 1 (.slice A' (xs.length + m) c') (xs ++ bs).length ((xs ++ bs).map u8V) ∧ w.grownBy w' v.ownBlock ∧
      ((Value.slice A' (xs.length + m) c').ownBlock = v.ownBlock ∨ (Value.slice A' (xs.length + m) c').ownBlock = some w.heap.size) := by
  obtain ⟨i0, hi0, hz0, hz1, hz2⟩ := info_parts byte_info
  have hbl := hs.1
  have fin : ∀ v' w', (Builtin.append_ #[51, 51] ty #[v, .slice A m c]).run Try.prog w = .ok v' w' → w'.ownsRow 0 5 1 v' (xs.length + m) (xs.map u8V ++ bs.map u8V) → w.grownBy w' v.ownBlock → (v'.ownBlock = v.ownBlock ∨ v'.ownBlock = some w.heap.size) →
      ∃ A' c' w', (Builtin.append_ #[51, 51] ty #[v, .slice A m c]).run Try.prog w = .ok (.slice A' (xs.length + m) c') w' ∧ w'.ownsRow 0 5 1 (.slice A' (xs.length + m) c') (xs ++ bs).length ((xs ++ bs).map u8V) ∧ w.grownBy w' v.ownBlock ∧
      ((Value.slice A' (xs.length + m) c').ownBlock = v.ownBlock ∨ (Value.slice A' (xs.length + m) c').ownBlock = some w.heap.size) := by
    intro v' w' h1 h2 h3 h4
    obtain ⟨A', c', e, _⟩ := row_shape h2
    subst e
    refine ⟨A', c', w', h1, ?_, h3, h4⟩
    rw [List.length_append, List.map_append, hbl]; exact h2
  cases A with
  | none =>
    obtain rfl : m = 0 := by
      rcases Nat.eq_zero_or_pos m with h0 | h0
      · exact h0
      · obtain ⟨b, o, h, _⟩ := hs.2 h0; cases h
    obtain rfl : bs = [] := List.eq_nil_of_length_eq_zero hbl
    refine fin v w ?_ (by simpa using hown) (World.grownBy.refl w _) (.inl rfl)
    rcases hown.2 with ⟨rfl, _⟩ | ⟨g, cap, cur, rfl, _, _, hnc, _⟩
    · simp [Builtin.append_, run_underlying Try.underlying51, sizeOf, typeInfo, hi0, Builtin.lenOf, Builtin.firstCells]
    · simp [Builtin.append_, run_underlying Try.underlying51, sizeOf, typeInfo, hi0, Builtin.lenOf, Builtin.firstCells, hnc, storeCells]
  | some ad =>
    obtain ⟨v', w', h1, h2, h3, _, h5⟩ := run_append_own_at (P := Try.prog) w 0 51 ty 5 i0 _ 1 1 Try.underlying51 hi0 hz0 hz1 hz2 rfl (by decide) v xs.length (xs.map u8V) hown ad m c (bs.map u8V) (by simp [hbl]) (fun j u hu => by
      obtain ⟨x, hx, rfl⟩ : ∃ x, bs[j]? = some x ∧ u8V x = u := by simpa using hu
      have hj : 0 < m := by
        have := (List.getElem?_eq_some_iff.1 hx).1
        rw [hbl] at this
        exact Nat.lt_of_le_of_lt (Nat.zero_le _) this
      obtain ⟨b, o, e, _, hc⟩ := hs.2 hj
      have e := Option.some.inj e
      subst e
      have h9 := hc j x hx
      unfold Addr.add
      split
      · rename_i h0; subst h0; exact h9
      · exact h9) (fun u hu => by obtain ⟨x, _, rfl⟩ := List.mem_map.1 hu; rfl) (by unfold maxLen; omega) (by omega) (Nat.zero_le _)
    exact fin v' w' h1 h2 h3 h5
/-- An append at a step of a region that draws its order, its run known. -/
theorem step_append_run {w w' : World} {ops : Array Oper} {o : Oper} {a : Act} {K : Act → World → Prop} {Q : Exit → Act → World → Prop} {E : Prop} (hgd : o.guard = none) (s x : Operand) (t : TypeId)
    (ho : o.op = .call { callee := .builtin .append, args := #[s, x], argTypes := #[t, t] }) (v u r : Value) (hs : a.eval s = v) (hx : a.eval x = u)
    (hrun : (Builtin.append_ #[t, t] o.type #[v, u]).run Try.prog w = .ok r w') (h : K (a.put o.dst r) w') : if Region.wanted o (yielded ops a.tmps) = true then Oper.wp Try.prog o a w K Q else E := by
  have hw : Region.wanted o (yielded ops a.tmps) = true := by simp [Region.wanted, hgd]
  rw [if_pos hw]
  unfold Oper.wp execOp
  simp only [ho, resolve, invoke, builtin, Sem.run_bind, Sem.run_pure, Result.andThen_ok, List.map_toArray, List.map_cons, List.map_nil, hs, hx, hrun]
  exact h
theorem BytesAt.up {w w' : World} {A : Option Addr} {m : Nat} {bs : List UInt8} (h : BytesAt w A m bs) (hb : ∀ b, b < w.heap.size → w'.heap[b]? = w.heap[b]?) (hs : w.heap.size ≤ w'.heap.size) : BytesAt w' A m bs :=
  ⟨h.1, fun hm => by
    obtain ⟨b, o, e, hlt, hc⟩ := h.2 hm
    exact ⟨b, o, e, Nat.lt_of_lt_of_le hlt hs, fun i c hi => (World.cell?_of_block (a := ⟨b, o + i, none⟩) (hb b hlt)).trans (hc i c hi)⟩⟩
/-- .. and while some blocks turn in which it doesn't lie. -/
theorem BytesAt.keep {w w' : World} {A : Option Addr} {m : Nat} {bs : List UInt8} (h : BytesAt w A m bs) (hb : 0 < m → ∀ b o, A = some ⟨b, o, none⟩ → b < w.heap.size → w'.heap[b]? = w.heap[b]?) (hs : w.heap.size ≤ w'.heap.size) : BytesAt w' A m bs :=
  ⟨h.1, fun hm => by
    obtain ⟨b, o, e, hlt, hc⟩ := h.2 hm
    exact ⟨b, o, e, Nat.lt_of_lt_of_le hlt hs, fun i c hi => (World.cell?_of_block (a := ⟨b, o + i, none⟩) (hb hm b o e hlt)).trans (hc i c hi)⟩⟩
/-- An append whose run is known. -/
theorem wpList_append_run {w w' : World} {ops : Array Oper} {rest : List Oper} {o : Oper} {a : Act} {Q : Exit → Act → World → Prop} (hgd : o.guard = none) (s x : Operand) (t : TypeId)
    (ho : o.op = .call { callee := .builtin .append, args := #[s, x], argTypes := #[t, t] }) (v u r : Value) (hs : a.eval s = v) (hx : a.eval x = u)
    (hrun : (Builtin.append_ #[t, t] o.type #[v, u]).run Try.prog w = .ok r w') (h : wpList Try.prog ops Q rest (a.put o.dst r) w') : wpList Try.prog ops Q (o :: rest) a w := by
  refine wpList_plain hgd fun K hK => ?_
  unfold Oper.wp execOp
  simp only [ho, resolve, invoke, builtin, Sem.run_bind, Sem.run_pure, Result.andThen_ok, List.map_toArray, List.map_cons, List.map_nil, hs, hx, hrun]
  exact hK _ _ h
theorem row_bytes {w : World} {B : Nat} {v : Value} {xs : List UInt8} (h : w.ownsRow B 5 1 v xs.length (xs.map u8V)) : ∃ A c, v = .slice A xs.length c ∧ BytesAt w A xs.length xs ∧ ∀ b o, A = some ⟨b, o, none⟩ → B ≤ b := by
  rcases h.2 with ⟨e, h0⟩ | ⟨g, cap, cur, e, hB, hg, _, _, h3, h4⟩
  · refine ⟨none, 0, by rw [h0]; exact e, ⟨rfl, fun hm => by omega⟩, fun b o he => by cases he⟩
  · refine ⟨_, cap, e, ⟨rfl, fun _ => ⟨g, 0, rfl, (Array.getElem?_eq_some_iff.1 hg).1, fun i c hi => ?_⟩⟩, fun b o he => by injection he with he; injection he with he _ _; rw [← he]; exact hB⟩
    rw [cell_of_row w g (0 + i) cur 5 (0, 0) hg]
    have h5 : (cur.toList.take (xs.length * 1))[i]? = some (u8V c) := by rw [h4, List.getElem?_map, hi]; rfl
    have hl := (List.getElem?_eq_some_iff.1 hi).1
    rw [List.getElem?_take_of_lt (by omega)] at h5
    rw [Nat.zero_add, ← Array.getElem?_toList]
    exact h5
theorem row_base {w : World} {B B' : Nat} {v : Value} {e : TypeId} {n : Nat} {xs : List Value} (h : w.ownsRow B e 1 v n xs) (hB : B' ≤ B) : w.ownsRow B' e 1 v n xs := by
  refine ⟨h.1, ?_⟩
  rcases h.2 with h0 | ⟨g, cap, cur, e, h1, h2⟩
  · exact .inl h0
  · exact .inr ⟨g, cap, cur, e, Nat.le_trans hB h1, h2⟩
/-- A row's base is where its block lies. -/
theorem row_at {w : World} {B : Nat} {v : Value} {e : TypeId} {n : Nat} {xs : List Value} (h : w.ownsRow 0 e 1 v n xs) (hB : ∀ r, v.ownBlock = some r → B ≤ r) : w.ownsRow B e 1 v n xs := by
  refine ⟨h.1, ?_⟩
  rcases h.2 with h0 | ⟨g, cap, cur, e, h1, h2⟩
  · exact .inl h0
  · exact .inr ⟨g, cap, cur, e, hB g (by rw [e]; rfl), h2⟩
/-- Bytes that stand in a block of their own. -/
theorem bytes_new (w : World) (bs : List UInt8) (fz : Nat × Nat) : BytesAt (w.alloc (.cells (bs.map u8V).toArray 5 fz)) (some ⟨w.heap.size, 0, none⟩) bs.length bs :=
  ⟨rfl, fun _ => ⟨w.heap.size, 0, rfl, by simp, fun i c hi => by
    rw [Nat.zero_add, cell_of_row _ w.heap.size i (bs.map u8V).toArray 5 fz (heap_alloc_new w _)]
    simp [hi]⟩⟩
/-- A text out of bytes. -/
theorem conv_str {w : World} {A : Option Addr} {m : Nat} {bs : List UInt8} (h : BytesAt w A m bs) (c : Nat) : (convert 51 9 (.slice A m c)).run Try.prog w = .ok (.string ⟨bs.toArray⟩) w := by
  obtain rfl := h.1
  cases A with
  | none =>
    obtain rfl : bs = [] := List.eq_nil_of_length_eq_zero (by
      rcases Nat.eq_zero_or_pos bs.length with h0 | h0
      · exact h0
      · obtain ⟨b, o, e, _⟩ := h.2 h0; cases e)
    exact run_convert_bytes_nil w 51 5 Try.underlying51 Try.underlying5 0 c 9 Try.underlying9
  | some ad =>
    refine run_convert_bytes_back w 51 9 5 ad c bs Try.underlying51 Try.underlying5 Try.underlying9 (fun j hj => ?_)
    obtain ⟨b, o, e, _, hc⟩ := h.2 (by omega)
    have e := Option.some.inj e
    subst e
    have h9 := hc j bs[j] (List.getElem?_eq_getElem hj)
    unfold Addr.add
    split
    · rename_i h0; subst h0; exact h9
    · exact h9
theorem conv_const (w : World) (C : Array Value) (n c : Nat) : (convert 51 51 (.slice (some ⟨w.heap.size, 0, none⟩) n c)).run Try.prog (w.alloc (.cells C 5)) = .ok (.slice (some ⟨w.heap.size, 0, none⟩) n c) (w.alloc (.cells C 5 (C.size, C.size + 1))) :=
  Lib.run_convert_bytes_const w 51 5 C n c Try.underlying51 Try.underlying5
theorem BytesAt.below {w w' : World} {A : Option Addr} {m : Nat} {bs : List UInt8} (h : BytesAt w A m bs) (hb : Below w.heap.size w w') : BytesAt w' A m bs := h.up (fun b hlt => hb.block b hlt) hb.size
theorem BytesAt.kept {w w' : World} {X : Nat → Prop} {A : Option Addr} {m : Nat} {bs : List UInt8} (h : BytesAt w A m bs) (hk : Kept X w w') (hX : ∀ b o, A = some ⟨b, o, none⟩ → ¬ X b) : BytesAt w' A m bs := h.keep (fun _ b o e hlt => hk.block b hlt (hX b o e)) hk.size
theorem BytesAt.cut {w : World} {A : Option Addr} {m k : Nat} {bs : List UInt8} (h : BytesAt w A m bs) (hk : k ≤ m) : BytesAt w A k (bs.take k) :=
  ⟨by rw [List.length_take, h.1]; omega, fun hk0 => by
    obtain ⟨b, o, e, hlt, hc⟩ := h.2 (by omega)
    refine ⟨b, o, e, hlt, fun i c hi => hc i c ?_⟩
    have := (List.getElem?_eq_some_iff.1 hi).1
    rw [List.length_take] at this
    rw [List.getElem?_take_of_lt (by omega)] at hi
    exact hi⟩
theorem BytesAt.drop_ {w : World} {bs : List UInt8} {b o m k : Nat} (h : BytesAt w (some ⟨b, o, none⟩) m bs) (hk : k ≤ m) : BytesAt w (some ⟨b, o + k, none⟩) (m - k) (bs.drop k) :=
  ⟨by rw [List.length_drop, h.1], fun hm => by
    obtain ⟨b', o', e, hlt, hc⟩ := h.2 (by omega)
    injection e with e
    injection e with e1 e2 _
    subst e1 e2
    refine ⟨_, _, rfl, hlt, fun i c hi => ?_⟩
    rw [List.getElem?_drop] at hi
    rw [Nat.add_assoc]
    exact hc _ c hi⟩
end Go.Proofs.Ytjnhmcgjeljcmaa
