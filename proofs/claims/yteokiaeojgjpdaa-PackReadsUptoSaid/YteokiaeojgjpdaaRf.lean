/- PackReads: the function that reads, for all calls. -/
import Derived.Test.YteokiaeojgjpdaaRe
namespace Go.Proofs.Yteokiaeojgjpdaa
open Go.RowKit Go.Maps

theorem ne_types : (144 ≠ 2 ∧ 144 ≠ 9 ∧ 144 ≠ 3) ∧ (73 ≠ 2 ∧ 74 ≠ 9 ∧ 55 ≠ 3) := by decide
section
variable {N0 B rp p3 p5 p6 p7 box : Nat} {X : Nat → Prop} {A : Option Addr} {m c : Nat} {calls : List Int} {s : RSt} {rf : Bool} {w : World}
/-- Whatever keeps the blocks that are in use. -/
theorem ClsAt.move {w' : World} {s' : RSt} {rf' : Bool} (h : ClsAt N0 B rp p3 p5 p6 p7 box X A m c calls s rf w) (hs : w.heap.size ≤ w'.heap.size) (hlow : ∀ j, j < N0 → w'.heap[j]? = w.heap[j]?) (hbx : w'.heap[box]? = w.heap[box]?) (h3 : w'.heap[p3]? = w.heap[p3]?)
    (hrd : RdAt w' rp X s'.rest rf') (h5 : ∃ U, VarAt w' B 73 2 p5 U (s'.nums.map nV)) (h6 : ∃ U, VarAt w' B 74 9 p6 U (s'.texts.map tV)) (h7 : ∃ U, VarAt w' B 55 3 p7 U (s'.left.map nV)) : ClsAt N0 B rp p3 p5 p6 p7 box X A m c calls s' rf' w' :=
  ⟨hrd, hbx.trans h.bx, h3.trans h.c3, h.ci.keepN hs fun b o e => hlow b (h.lowA b o e), h5, h6, h7, ⟨h.low.1, h.low.2.1, h.low.2.2.1, h.low.2.2.2.1, h.low.2.2.2.2.1, h.low.2.2.2.2.2.1, h.low.2.2.2.2.2.2.1, Nat.le_trans h.low.2.2.2.2.2.2.2.1 hs, h.low.2.2.2.2.2.2.2.2⟩, h.lowX, h.lowA⟩
theorem ClsAt.rdBlk (h : ClsAt N0 B rp p3 p5 p6 p7 box X A m c calls s rf w) : ∃ cs, w.heap[rp]? = some (.cells cs 144 (0, 0)) := by
  obtain ⟨A', m', c', hb, _⟩ := h.rd.ex
  exact ⟨_, hb⟩
theorem ClsAt.drew (h : ClsAt N0 B rp p3 p5 p6 p7 box X A m c calls s rf w) : ClsAt N0 B rp p3 p5 p6 p7 box X A m c calls s rf w.drew :=
  h.move (w' := w.drew) (Nat.le_refl _) (fun _ _ => rfl) rfl rfl (h.rd.keep rfl (fun _ _ _ => rfl) (Nat.le_refl _)) (by obtain ⟨U, hU⟩ := h.v5; exact ⟨U, hU.keep rfl fun _ _ => rfl⟩) (by obtain ⟨U, hU⟩ := h.v6; exact ⟨U, hU.keep rfl fun _ _ => rfl⟩) (by obtain ⟨U, hU⟩ := h.v7; exact ⟨U, hU.keep rfl fun _ _ => rfl⟩)
/-- Behind a call of the Reader. -/
theorem ClsAt.reader {w' : World} {rest' : List UInt8} {rf' : Bool} (h : ClsAt N0 B rp p3 p5 p6 p7 box X A m c calls s rf w) (hr : RdAt w' rp X rest' rf') (hk : Kept (· = rp) w w') : ClsAt N0 B rp p3 p5 p6 p7 box X A m c calls ⟨s.nums, s.texts, s.left, rest'⟩ rf' w' := by
  obtain ⟨cs, hrb⟩ := h.rdBlk
  have key : ∀ (g : Nat) (cs' : Array Value) (t : TypeId), w.heap[g]? = some (Obj.cells cs' t (0, 0)) → t ≠ 144 → w'.heap[g]? = w.heap[g]? := fun g cs' t hg ht => hk.block g (Array.getElem?_eq_some_iff.1 hg).1 (apart_ty hg hrb ht)
  have kv : ∀ {tS tE : TypeId} {p : Nat} {U : Value} {xs : List Value}, VarAt w B tS tE p U xs → tS ≠ 144 → tE ≠ 144 → VarAt w' B tS tE p U xs := fun hv h1 h2 => hv.keep (key _ _ _ hv.blk h1) fun g hg => by
    obtain ⟨cur, hc⟩ := hv.cells hg
    exact key _ _ _ hc h2
  refine h.move hk.size (fun j hj => ?_) (key _ _ _ h.bx (by decide)) (key _ _ _ h.c3 (by decide)) hr ?_ ?_ ?_
  · rcases Nat.lt_or_ge j w.heap.size with hl | hl
    · exact hk.block j hl (by have := h.low.2.2.2.2.1; show j ≠ rp; omega)
    · have := h.low; have h9 : rp < w.heap.size := (Array.getElem?_eq_some_iff.1 hrb).1; omega
  · obtain ⟨U, hU⟩ := h.v5; exact ⟨U, kv hU (by decide) (by decide)⟩
  · obtain ⟨U, hU⟩ := h.v6; exact ⟨U, kv hU (by decide) (by decide)⟩
  · obtain ⟨U, hU⟩ := h.v7; exact ⟨U, kv hU (by decide) (by decide)⟩
theorem ClsAt.lowK (h : ClsAt N0 B rp p3 p5 p6 p7 box X A m c calls s rf w) {w' : World} (hk : Kept (· = rp) w w') : Below N0 w w' :=
  ⟨hk.os, hk.tape, hk.output, hk.size, fun j hj => hk.block j (by have := h.low; omega) (by have := h.low; show j ≠ rp; omega)⟩

/-- 'nums = append(nums, ..)'. -/
theorem ClsAt.put5 {U : Value} (h : ClsAt N0 B rp p3 p5 p6 p7 box X A m c calls s rf w) (hU : VarAt w B 73 2 p5 U (s.nums.map nV)) (n : Nat) (hl : s.nums.length + 1 ≤ 1000000000) (t9 : TypeId) :
    ∃ v' w3, (Builtin.append_ #[73, 73] t9 #[U, .slice (some ⟨w.heap.size, 0, none⟩) 1 1]).run Try.prog (w.alloc (.cells #[nV n] 2)) = .ok v' w3 ∧ Blk w3 p5 73 #[U] ∧ ClsAt N0 B rp p3 p5 p6 p7 box X A m c calls ⟨s.nums ++ [n], s.texts, s.left, s.rest⟩ rf (w3.setCell ⟨p5, 0, none⟩ v') ∧ Below N0 w (w3.setCell ⟨p5, 0, none⟩ v') ∧ ∃ A1 n1 c1, v' = .slice A1 n1 c1 := by
  have hlo := h.low
  obtain ⟨v', w3, e1, e2, hv, hf, hs, hb, hsl⟩ := var_put (w := w) (bytes := 8) Try.underlying73 i64Info rfl (by decide) (by decide) (x := nV n) t9 hU rfl (by rw [List.length_map]; exact hl) hlo.2.2.2.2.2.2.2.1
  have hbN := hb N0 (by omega) (by omega) (by omega)
  refine ⟨v', w3, e1, e2, ?_, hbN, hsl⟩
  have hN : N0 ≤ w.heap.size := by omega
  obtain ⟨g0, hg0⟩ := hU.own
  obtain ⟨cur0, hc0⟩ := hU.cells hg0
  have fr : ∀ (g : Nat) (cs : Array Value) (t : TypeId), w.heap[g]? = some (Obj.cells cs t (0, 0)) → t ≠ 73 → t ≠ 2 → (w3.setCell ⟨p5, 0, none⟩ v').heap[g]? = w.heap[g]? := fun g cs t hg h1 h2 => hf g (Array.getElem?_eq_some_iff.1 hg).1 (apart_ty hg hU.blk h1) (fun e => by
    rw [hg0] at e; injection e with e; exact apart_ty hg hc0 h2 e.symm)
  obtain ⟨cs, hrb⟩ := h.rdBlk
  refine h.move hs (fun j hj => hbN.block j hj) (fr _ _ _ h.bx (by decide) (by decide)) ?_ (h.rd.keep (fr _ _ _ hrb (by decide) (by decide)) (fun b hb _ => hbN.block b (h.lowX b hb)) hs) ?_ ?_ ?_
  · exact fr _ _ _ h.c3 (by decide) (by decide)
  · exact ⟨v', by rw [List.map_append]; exact hv⟩
  · obtain ⟨U2, hU2⟩ := h.v6
    exact ⟨U2, hU2.keep (fr _ _ _ hU2.blk (by decide) (by decide)) fun g hg => by
      obtain ⟨cur, hc⟩ := hU2.cells hg
      exact fr _ _ _ hc (by decide) (by decide)⟩
  · obtain ⟨U2, hU2⟩ := h.v7
    exact ⟨U2, hU2.keep (fr _ _ _ hU2.blk (by decide) (by decide)) fun g hg => by
      obtain ⟨cur, hc⟩ := hU2.cells hg
      exact fr _ _ _ hc (by decide) (by decide)⟩

/-- 'texts = append(texts, ..)'. -/
theorem ClsAt.put6 {U : Value} (h : ClsAt N0 B rp p3 p5 p6 p7 box X A m c calls s rf w) (hU : VarAt w B 74 9 p6 U (s.texts.map tV)) (l : List UInt8) (hl : s.texts.length + 1 ≤ 1000000000) (t9 : TypeId) :
    ∃ v' w3, (Builtin.append_ #[74, 74] t9 #[U, .slice (some ⟨w.heap.size, 0, none⟩) 1 1]).run Try.prog (w.alloc (.cells #[tV l] 9)) = .ok v' w3 ∧ Blk w3 p6 74 #[U] ∧ ClsAt N0 B rp p3 p5 p6 p7 box X A m c calls ⟨s.nums, s.texts ++ [l], s.left, s.rest⟩ rf (w3.setCell ⟨p6, 0, none⟩ v') ∧ Below N0 w (w3.setCell ⟨p6, 0, none⟩ v') ∧ ∃ A1 n1 c1, v' = .slice A1 n1 c1 := by
  have hlo := h.low
  obtain ⟨v', w3, e1, e2, hv, hf, hs, hb, hsl⟩ := var_put (w := w) (bytes := 16) Try.underlying74 textInfo rfl (by decide) (by decide) (x := tV l) t9 hU rfl (by rw [List.length_map]; exact hl) hlo.2.2.2.2.2.2.2.1
  have hbN := hb N0 (by omega) (by omega) (by omega)
  refine ⟨v', w3, e1, e2, ?_, hbN, hsl⟩
  have hN : N0 ≤ w.heap.size := by omega
  obtain ⟨g0, hg0⟩ := hU.own
  obtain ⟨cur0, hc0⟩ := hU.cells hg0
  have fr : ∀ (g : Nat) (cs : Array Value) (t : TypeId), w.heap[g]? = some (Obj.cells cs t (0, 0)) → t ≠ 74 → t ≠ 9 → (w3.setCell ⟨p6, 0, none⟩ v').heap[g]? = w.heap[g]? := fun g cs t hg h1 h2 => hf g (Array.getElem?_eq_some_iff.1 hg).1 (apart_ty hg hU.blk h1) (fun e => by
    rw [hg0] at e; injection e with e; exact apart_ty hg hc0 h2 e.symm)
  obtain ⟨cs, hrb⟩ := h.rdBlk
  refine h.move hs (fun j hj => hbN.block j hj) (fr _ _ _ h.bx (by decide) (by decide)) ?_ (h.rd.keep (fr _ _ _ hrb (by decide) (by decide)) (fun b hb _ => hbN.block b (h.lowX b hb)) hs) ?_ ?_ ?_
  · exact fr _ _ _ h.c3 (by decide) (by decide)
  · obtain ⟨U2, hU2⟩ := h.v5
    exact ⟨U2, hU2.keep (fr _ _ _ hU2.blk (by decide) (by decide)) fun g hg => by
      obtain ⟨cur, hc⟩ := hU2.cells hg
      exact fr _ _ _ hc (by decide) (by decide)⟩
  · exact ⟨v', by rw [List.map_append]; exact hv⟩
  · obtain ⟨U2, hU2⟩ := h.v7
    exact ⟨U2, hU2.keep (fr _ _ _ hU2.blk (by decide) (by decide)) fun g hg => by
      obtain ⟨cur, hc⟩ := hU2.cells hg
      exact fr _ _ _ hc (by decide) (by decide)⟩

/-- 'left = append(left, ..)'. -/
theorem ClsAt.put7 {U : Value} (h : ClsAt N0 B rp p3 p5 p6 p7 box X A m c calls s rf w) (hU : VarAt w B 55 3 p7 U (s.left.map nV)) (n : Nat) (hl : s.left.length + 1 ≤ 1000000000) (t9 : TypeId) :
    ∃ v' w3, (Builtin.append_ #[55, 55] t9 #[U, .slice (some ⟨w.heap.size, 0, none⟩) 1 1]).run Try.prog (w.alloc (.cells #[nV n] 3)) = .ok v' w3 ∧ Blk w3 p7 55 #[U] ∧ ClsAt N0 B rp p3 p5 p6 p7 box X A m c calls ⟨s.nums, s.texts, s.left ++ [n], s.rest⟩ rf (w3.setCell ⟨p7, 0, none⟩ v') ∧ Below N0 w (w3.setCell ⟨p7, 0, none⟩ v') ∧ ∃ A1 n1 c1, v' = .slice A1 n1 c1 := by
  have hlo := h.low
  obtain ⟨v', w3, e1, e2, hv, hf, hs, hb, hsl⟩ := var_put (w := w) (bytes := 8) Try.underlying55 intInfo rfl (by decide) (by decide) (x := nV n) t9 hU rfl (by rw [List.length_map]; exact hl) hlo.2.2.2.2.2.2.2.1
  have hbN := hb N0 (by omega) (by omega) (by omega)
  refine ⟨v', w3, e1, e2, ?_, hbN, hsl⟩
  have hN : N0 ≤ w.heap.size := by omega
  obtain ⟨g0, hg0⟩ := hU.own
  obtain ⟨cur0, hc0⟩ := hU.cells hg0
  have fr : ∀ (g : Nat) (cs : Array Value) (t : TypeId), w.heap[g]? = some (Obj.cells cs t (0, 0)) → t ≠ 55 → t ≠ 3 → (w3.setCell ⟨p7, 0, none⟩ v').heap[g]? = w.heap[g]? := fun g cs t hg h1 h2 => hf g (Array.getElem?_eq_some_iff.1 hg).1 (apart_ty hg hU.blk h1) (fun e => by
    rw [hg0] at e; injection e with e; exact apart_ty hg hc0 h2 e.symm)
  obtain ⟨cs, hrb⟩ := h.rdBlk
  refine h.move hs (fun j hj => hbN.block j hj) (fr _ _ _ h.bx (by decide) (by decide)) ?_ (h.rd.keep (fr _ _ _ hrb (by decide) (by decide)) (fun b hb _ => hbN.block b (h.lowX b hb)) hs) ?_ ?_ ?_
  · exact hf p3 h.c3.lt (by omega) (fun e => by rw [hg0] at e; injection e with e; exact apart_ty hc0 h.c3 (by decide) e)
  · obtain ⟨U2, hU2⟩ := h.v5
    exact ⟨U2, hU2.keep (fr _ _ _ hU2.blk (by decide) (by decide)) fun g hg => by
      obtain ⟨cur, hc⟩ := hU2.cells hg
      exact fr _ _ _ hc (by decide) (by decide)⟩
  · obtain ⟨U2, hU2⟩ := h.v6
    exact ⟨U2, hU2.keep (fr _ _ _ hU2.blk (by decide) (by decide)) fun g hg => by
      obtain ⟨cur, hc⟩ := hU2.cells hg
      exact fr _ _ _ hc (by decide) (by decide)⟩
  · exact ⟨v', by rw [List.map_append]; exact hv⟩

end
end Go.Proofs.Yteokiaeojgjpdaa
