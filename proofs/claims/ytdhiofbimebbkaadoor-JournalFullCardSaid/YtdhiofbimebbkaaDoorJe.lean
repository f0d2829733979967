/- A journal takes an item more. -/
import Derived.Test.YtdhiofbimebbkaaDoorJc
namespace Go.Proofs.YtdhiofbimebbkaaDoor
open Go.RowKit Go.Maps
section
variable {w w' : World} {jp jm dp : Nat} {nm : ByteArray} {Y : Nat → Prop} {L : List Ent}
theorem JAt.jm_ne (h : JAt w jp jm dp nm Y L) : jm ≠ jp := by
  intro e
  obtain ⟨es, clock, hb, _⟩ := h.mp
  have h1 : w.heap[jp]? = _ := h.top
  rw [← e, hb] at h1; cases h1
theorem itms_snoc (L : List Ent) (e : Ent) : itms (L ++ [e]) = itms L ++ [e.itm] := by unfold itms; simp
theorem hasE_hasK (L : List Ent) (k : Nat) : hasE L (k : Nat) = hasK (itms L) k := by
  unfold hasE hasK itms
  rw [List.any_map]
  congr 1
  funext e
  simp only [Function.comp, Ent.itm]
  rw [Bool.eq_iff_iff, beq_iff_eq, beq_iff_eq]; omega
theorem fileL_len (its : List Itm) : 9 * its.length ≤ (fileL its).length := by
  induction its with
  | nil => exact Nat.zero_le _
  | cons x r ih =>
    have := recI_len x
    rw [fileL_cons, List.length_append, List.length_cons]; omega
theorem itms_len (L : List Ent) : (itms L).length = L.length := by unfold itms; rw [List.length_map]
theorem wf_key {k : Nat} (h : k ≤ 1099511627776) : (Lit.int .i64 ((k : Nat) : Int)).wf = true := by simp [Lit.wf, IntKind.min, IntKind.max, IntKind.signed, IntKind.bits]; omega
set_option maxRecDepth 100000 in
/-- An item more: the map's store, then the size. -/
theorem JAt.put (h : JAt w jp jm dp nm Y L) {e : Ent} (hh : hasE L (e.key : Nat) = false) (hk : e.key ≤ 1099511627776) (hn : L.length < maxLen) (hb : BytesAt w (some ⟨e.b, e.o, none⟩) e.data.length e.data) (hc : e.data.length ≤ e.cap) (h1 : e.b ≠ jp) (h2 : e.b ≠ jm) (h3 : e.b < w.heap.size) :
    ∃ w1, (Instr.mapUpdate 52 (.map (some jm)) (.int .i64 (e.key : Nat)) e.v).run Tryd.prog w = .ok () w1 ∧ w.grownBy w1 (some jm) ∧ Blk w1 jp 54 #[.pointer (some ⟨dp, 0, none⟩), .string nm, .map (some jm), .int .i64 ((fileL (itms L)).length : Nat)] ∧
      JAt (w1.setCell ⟨jp, 3, none⟩ (.int .i64 ((fileL (itms (L ++ [e]))).length : Nat))) jp jm dp nm (fun j => Y j ∨ j = e.b) (L ++ [e]) := by
  obtain ⟨w1, r1, r2, r3⟩ := h.mp.store law_i64 Tryd.underlying52 hn (key_i64 (wf_key hk)) (d := .held e.v) (ps := []) (val := e.v) rfl
  have hg := r3.grown
  have hjm := h.jm_ne
  have hjl : jp < w.heap.size := Blk.lt h.top
  have ht1 : Blk w1 jp 54 #[.pointer (some ⟨dp, 0, none⟩), .string nm, .map (some jm), .int .i64 ((fileL (itms L)).length : Nat)] := (hg.block jp hjl (fun e' => by injection e' with e'; exact hjm e'.symm)).trans h.top
  have hkp : ∀ j, j < w.heap.size → j ≠ jp → j ≠ jm → (w1.setCell ⟨jp, 3, none⟩ (.int .i64 ((fileL (itms (L ++ [e]))).length : Nat))).heap[j]? = w.heap[j]? := fun j hj n1 n2 =>
    (Below.heap_setCell w1 ⟨jp, 3, none⟩ _ j n1).trans (hg.block j hj (fun e' => by injection e' with e'; exact n2 e'))
  have hsz : (w1.setCell ⟨jp, 3, none⟩ (.int .i64 ((fileL (itms (L ++ [e]))).length : Nat))).heap.size = w1.heap.size := by simp [World.setCell]
  refine ⟨w1, r1, hg, ht1, ?_⟩
  have hbk : ∀ f : Ent, BytesAt w (some ⟨f.b, f.o, none⟩) f.data.length f.data → f.b ≠ jp → f.b ≠ jm → f.b < w.heap.size → BytesAt (w1.setCell ⟨jp, 3, none⟩ (.int .i64 ((fileL (itms (L ++ [e]))).length : Nat))) (some ⟨f.b, f.o, none⟩) f.data.length f.data := fun f hf n1 n2 hl =>
    hf.keep (fun _ b o e2 _ => by injection e2 with e2; injection e2 with e2 _ _; rw [← e2]; exact hkp _ hl n1 n2) (by rw [hsz]; exact hg.size)
  exact {
    top := Blk.set_ ht1 3 _
    mp := by
      rw [jD_snoc, List.length_append]
      obtain ⟨es, clock, q1, q2, q3, q4⟩ := r2
      exact ⟨es, clock, (Below.heap_setCell w1 ⟨jp, 3, none⟩ _ jm hjm).trans q1, q2, q3, q4⟩
    yj := .inl h.yj
    ym := .inl h.ym
    data := fun f hf => by
      rcases List.mem_append.1 hf with hf | hf
      · obtain ⟨q1, q2, q3, q4, q5⟩ := h.data f hf
        exact ⟨hbk f q1 q4 q5 (h.lt _ q3), q2, .inl q3, q4, q5⟩
      · obtain rfl : f = e := by simpa using hf
        exact ⟨hbk f hb h1 h2 h3, hc, .inr rfl, h1, h2⟩
    once := by
      refine List.pairwise_append.2 ⟨h.once, List.pairwise_singleton _ _, fun a ha b hb => ?_⟩
      obtain rfl : b = e := by simpa using hb
      intro e'
      unfold hasE at hh
      rw [List.any_eq_false] at hh
      exact hh a ha (by rw [e']; simp)
    lt := fun j hj => by
      rw [hsz]
      rcases hj with hj | rfl
      · exact Nat.lt_of_lt_of_le (h.lt j hj) hg.size
      · exact Nat.lt_of_lt_of_le h3 hg.size }
end
end Go.Proofs.YtdhiofbimebbkaaDoor
