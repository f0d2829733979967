/- nfa.Prog.ahead: a tree's states (the ways one by one). -/
import Derived.Test.YtepfpmnfecehbaaOd
import Derived.Test.YtepfpmnfecehbaaOe
namespace Go.Proofs.Ytepfpmnfecehbaa
open Go.RowKit Go.Maps

/-- A build at the list of a plain region's operations, its run known. -/
theorem wpList_build1 {w : World} {ops : Array Oper} {rest : List Oper} {o : Oper} {a : Act} {Q : Exit → Act → World → Prop} (hgd : o.guard = none) (t : TypeId) (i : Nat) (x : Operand)
    (ho : o.op = .build t #[(i, x)]) (v r : Value) (hx : a.eval x = v) (hrun : (Instr.build t #[(i, v)]).run Try.prog w = .ok r w) (h : wpList Try.prog ops Q rest (a.put o.dst r) w) : wpList Try.prog ops Q (o :: rest) a w := by
  refine wpList_plain hgd fun K hK => ?_
  unfold Oper.wp execOp
  simp only [ho, List.map_toArray, List.map_cons, List.map_nil, hx, Sem.run_bind, Sem.run_pure, Result.andThen_ok, hrun]
  exact hK _ _ h
theorem wpList_build2 {w : World} {ops : Array Oper} {rest : List Oper} {o : Oper} {a : Act} {Q : Exit → Act → World → Prop} (hgd : o.guard = none) (t : TypeId) (i j : Nat) (x y : Operand)
    (ho : o.op = .build t #[(i, x), (j, y)]) (v u r : Value) (hx : a.eval x = v) (hy : a.eval y = u) (hrun : (Instr.build t #[(i, v), (j, u)]).run Try.prog w = .ok r w) (h : wpList Try.prog ops Q rest (a.put o.dst r) w) : wpList Try.prog ops Q (o :: rest) a w := by
  refine wpList_plain hgd fun K hK => ?_
  unfold Oper.wp execOp
  simp only [ho, List.map_toArray, List.map_cons, List.map_nil, hx, hy, Sem.run_bind, Sem.run_pure, Result.andThen_ok, hrun]
  exact hK _ _ h
/-- What ahead answers. -/
def AhPost (w : World) (X : Nat → Prop) (pp : Nat) (start steps : Int) (r : Nat × List St) (e : Ending) (w' : World) : Prop :=
  e = .returned (.int .i64 (r.1 : Nat)) ∧ ∃ X', Mach w' X' pp start steps r.2 ∧ (∀ j, X' j → X j ∨ w.heap.size ≤ j) ∧ Kept X w w'
/-- Where a tree may lie beside a machine. -/
def Off (w : World) (X : Nat → Prop) (b : Nat) : Prop := b < w.heap.size ∧ ¬ X b
def AhIH (d : Nat) : Prop := ∀ (t : Tr) (v0 v1 v2 : Value) (w : World) (X : Nat → Prop) (pp : Nat) (start steps : Int) (S : List St) (nx : Nat), TreeAt w (Off w X) d t [v0, v1, v2] → GoodT d t → Mach w X pp start steps S → nx ≤ 90000 → S.length + nodesT d t ≤ 90000 →
  Calls Try.prog 53 #[.pointer (some ⟨pp, 0, none⟩), .agg #[v0, v1, v2], .int .i64 (nx : Nat)] w (AhPost w X pp start steps (aheadT d t nx S))
theorem off_keep {w w' : World} {X X' : Nat → Prop} (hk : Kept X w w') (hX : ∀ j, X' j → X j ∨ w.heap.size ≤ j) {b : Nat} (h : Off w X b) : Off w' X' b := ⟨Nat.lt_of_lt_of_le h.1 hk.size, fun hx => by
  rcases hX b hx with h1 | h1
  · exact h.2 h1
  · have := h.1; omega⟩
theorem tree_off {w w' : World} {X X' : Nat → Prop} {d : Nat} {t : Tr} {cs : List Value} (h : TreeAt w (Off w X) d t cs) (hk : Kept X w w') (hX : ∀ j, X' j → X j ∨ w.heap.size ≤ j) : TreeAt w' (Off w' X') d t cs :=
  (h.keep (fun b hb => hk.block b hb.1 hb.2)).mono fun _ hb => off_keep hk hX hb
theorem kept_alloc (X : Nat → Prop) (w : World) (o : Obj) : Kept X w (w.alloc o) := (Kept.refl X w).alloc o
theorem Mach.alloc {w : World} {X : Nat → Prop} {pp : Nat} {start steps : Int} {S : List St} (h : Mach w X pp start steps S) (o : Obj) : Mach (w.alloc o) X pp start steps S := h.below ((Below.refl _ w).alloc (Nat.le_refl _) o)
set_option maxHeartbeats 400000 in
set_option maxRecDepth 100000 in
theorem ahead1_any (d : Nat) (rs : List (UInt8 × UInt8)) (kids : List Tr) (A A' : Option Addr) (n c n' c' : Nat) (w : World) (X : Nat → Prop) (pp : Nat) (start steps : Int) (S : List St) (nx : Nat)
    (hr : RgAt w (Off w X) A n rs) (hn : n ≤ maxLen) (hm : Mach w X pp start steps S) (hnx : nx ≤ 90000) (hl : S.length + 1 ≤ 90000) :
    Calls Try.prog 53 #[.pointer (some ⟨pp, 0, none⟩), .agg #[.int .i64 1, .slice A n c, .slice A' n' c'], .int .i64 (nx : Nat)] w (AhPost w X pp start steps (aheadT (d + 1) (.mk 1 rs kids) nx S)) := by
  have HT : aheadT (d + 1) (.mk 1 rs kids) nx S = (S.length, S ++ [⟨inR rs, false, [nx]⟩]) := by unfold aheadT; rw [if_pos rfl]
  rw [HT]
  clear HT
  have b0 : Below w.heap.size w (w.alloc (.cells #[.int .i64 1, .slice A n c, .slice A' n' c'] 26)) := (Below.refl _ w).alloc (Nat.le_refl _) _
  have HB := Lib.hid (members_any A n c rs (w.alloc (.cells #[.int .i64 1, .slice A n c, .slice A' n' c'] 26)) ((hr.keep fun b hb => b0.block b hb.1).mono fun b hb => by have := hb.1; simp; omega) hn)
  have hs0 : (w.alloc (.cells #[.int .i64 1, .slice A n c, .slice A' n' c'] 26)).heap.size = w.heap.size + 1 := by simp
  have hpl := hm.lt
  have HM := Lib.hid hm
  have hMl := Lib.hid (fun j (hj : X j) => hm.old hj)
  clear hm hr
  go_enter Try.func53, Try.ntmps53
  go_wp2_with fail
  refine HB.out.mono ?_
  rintro e w1 ⟨rfl, b1⟩
  have B1 := Lib.hid (b0.trans (b1.mono (by omega)))
  obtain ⟨f, hf⟩ : ∃ f : Nat → Bool, f = inR rs := ⟨_, rfl⟩
  have hs1 := b1.size
  have HF := Lib.hid hf
  have hK := Blk.new w1 3 #[.int .i64 (nx : Nat)]
  have hw2 : Below w1.heap.size w1 (w1.alloc (.cells #[.int .i64 (nx : Nat)] 3)) := (Below.refl _ w1).alloc (Nat.le_refl _) _
  have HA := Lib.hid (add_any ((HM.out.below B1.out).below hw2) ⟨f, false, [nx]⟩ (.slice (some ⟨w1.heap.size, 0, none⟩) 1 1) ⟨rfl, .inr ⟨w1.heap.size, 1, #[.int .i64 (nx : Nat)], rfl, Nat.zero_le _, hK, Nat.le_refl _, by decide, rfl, rfl⟩⟩ (fun b hb hx => by
    have h1 : w1.heap.size = b := Option.some.inj hb
    have := hMl.out b hx
    have := B1.out.size
    omega) (by omega))
  have HW2 := Lib.hid hw2
  clear b1 hK hw2 HB b0
  rw [show (rowV 256 fun j => Value.bool (inR rs j)) = rowV 256 fun j => .bool (f j) by rw [hf]]
  clear hf
  have HBU := Lib.hid (fun W => build_setS f [nx] (some ⟨w1.heap.size, 0, none⟩) 1 1 W)
  obtain ⟨RV, hRV⟩ : ∃ RV, RV = (rowV 256 fun j => Value.bool (f j)) := ⟨_, rfl⟩
  obtain ⟨SV, hSV⟩ : ∃ SV, SV = stC ⟨f, false, [nx]⟩ (.slice (some ⟨w1.heap.size, 0, none⟩) 1 1) := ⟨_, rfl⟩
  rw [← hRV, ← hSV] at HBU
  rw [← hRV]
  rw [← hSV] at HA
  clear hRV hSV
  go_wp2_with (refine wpList_build2 rfl 143 0 2 (.tmp 19) (.tmp 21) rfl (.agg RV) (.slice (some ⟨w1.heap.size, 0, none⟩) 1 1) (.agg SV) rfl rfl (HBU.out _) ?_)
  refine HA.out.mono ?_
  rintro e w3 ⟨rfl, X3, hm3, hx3, hk3⟩
  have HFIN := Lib.hid (show ∃ X', Mach w3 X' pp start steps (S ++ [⟨inR rs, false, [nx]⟩]) ∧ (∀ j, X' j → X j ∨ w.heap.size ≤ j) ∧ Kept X w w3 from by
    rw [← HF.out]
    have k1 : Kept X w w1 := kept_below B1.out |>.mono (fun j _ hj => hj)
    refine ⟨X3, hm3, fun j hj => ?_, (k1.alloc (.cells #[.int .i64 (nx : Nat)] 3)).trans hk3 (fun j hj => .inl hj)⟩
    have := B1.out.size
    rcases hx3 j hj with h1 | h1 | h1
    · exact .inl h1
    · have h2 : w1.heap.size = j := Option.some.inj h1
      exact .inr (by omega)
    · exact .inr (by simp at h1; omega))
  clear hm3 hx3 hk3 HA
  go_wp2
  go_ret
  exact ⟨rfl, HFIN.out⟩
end Go.Proofs.Ytepfpmnfecehbaa
