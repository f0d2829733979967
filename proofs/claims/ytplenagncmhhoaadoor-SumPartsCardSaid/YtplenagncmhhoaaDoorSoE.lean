/- SumParts: both reports' parts in new memory, in whatever order: what each order leaves. -/
import Derived.Test.YtplenagncmhhoaaDoorSoC
namespace Go.Proofs.YtplenagncmhhoaaDoor
open Go.RowKit

theorem region_cut {P : Program} {c : Code} {Q : Exit → Act → World → Prop} {a : Act} {w : World} (R : Act → Act → World → Prop) (h : c.wp P (fun e a' w' => e = .normal ∧ R a a' w') a w) (k : ∀ a' w', R a a' w' → Q .normal a' w') : c.wp P Q a w :=
  Code.wp_mono (fun e a' w' he => by obtain ⟨rfl, he⟩ := he; exact k _ _ he) h
def put5 (a : Act) (x36 x37 x38 x39 x40 x41 x42 x43 x44 x45 x46 x47 x5 : Value) : Act :=
  ((((((((((((a.put (some 36) x36).put (some 37) x37).put (some 38) x38).put (some 39) x39).put (some 40) x40).put (some 41) x41).put (some 42) x42).put (some 43) x43).put (some 44) x44).put (some 45) x45).put (some 46) x46).put (some 47) x47).put (some 5) x5
def R5 (w5 : World) (su bo : ByteArray) (m : Nat) (rs : List PtB) (a0 a' : Act) (w' : World) : Prop :=
  ∃ (x36 x37 x38 x39 x40 x41 x42 x43 x44 x45 x46 x47 : Value) (q : Nat) (A2 : Option Addr) (c2 : Nat), a' = put5 a0 x36 x37 x38 x39 x40 x41 x42 x43 x44 x45 x46 x47 (.pointer (some ⟨q, 0, none⟩)) ∧ w5.heap.size ≤ q ∧ Blk w' q 24 #[.string su, .string bo, .slice A2 m c2] ∧ PartsAt w' A2 m rs ∧ Below w5.heap.size w5 w'
theorem R5.intro {w5 : World} {su bo : ByteArray} {m : Nat} {rs : List PtB} {a0 a' : Act} {w' : World} (q : Nat) (A2 : Option Addr) (c2 : Nat) (h : a' = put5 a0 (sl a' 36) (sl a' 37) (sl a' 38) (sl a' 39) (sl a' 40) (sl a' 41) (sl a' 42) (sl a' 43) (sl a' 44) (sl a' 45) (sl a' 46) (sl a' 47) (.pointer (some ⟨q, 0, none⟩)))
    (hh : w5.heap.size ≤ q ∧ Blk w' q 24 #[.string su, .string bo, .slice A2 m c2] ∧ PartsAt w' A2 m rs ∧ Below w5.heap.size w5 w') : Exit.normal = Exit.normal ∧ R5 w5 su bo m rs a0 a' w' :=
  ⟨rfl, _, _, _, _, _, _, _, _, _, _, _, _, q, A2, c2, h, hh⟩
/-- Cells behind an address. -/
def CsAt (w : World) (A : Option Addr) (n : Nat) (cs : List Value) : Prop :=
  0 < n → ∃ b f, A = some ⟨b, f, none⟩ ∧ b < w.heap.size ∧ ∀ (j : Nat) u, cs[j]? = some u → w.cell? ⟨b, f + j, none⟩ = some u
theorem CsAt.below {w w' : World} {A : Option Addr} {n : Nat} {cs : List Value} (h : CsAt w A n cs) (hb : Below w.heap.size w w') : CsAt w' A n cs := fun h0 => by
  obtain ⟨b, f, e, hlt, hc⟩ := h h0
  have := hb.size
  exact ⟨b, f, e, by omega, fun j u hu => (World.cell?_of_block (a := ⟨b, f + j, none⟩) (hb.block b hlt)).trans (hc j u hu)⟩
abbrev zero3 : Array Value := #[.string ⟨#[]⟩, .string ⟨#[]⟩, .slice none 0 0]
theorem row_empty {w : World} {M g : Nat} (hg : Blk w g 46 #[]) (hM : M ≤ g) : w.ownsRow M 46 2 (.slice (some ⟨g, 0, none⟩) 0 0) 0 [] :=
  ⟨rfl, .inr ⟨g, 0, #[], rfl, hM, hg, Nat.le_refl _, by decide, rfl, rfl⟩⟩
/-- One append of parts to a row that is the region's own. -/
theorem app1P {w5 V : World} {A : Option Addr} {n c m : Nat} {v : Value} {xs cs : List Value} (hB : Below w5.heap.size w5 V) (hown : V.ownsRow w5.heap.size 46 2 v n xs) (hl : cs.length = m * 2) (h1 : ∀ u ∈ cs, u.oneCell' = true) (hs : CsAt w5 A m cs) (hlen : n + m ≤ 1000000) :
    ∃ A1 c1 W1, (Builtin.append_ #[22, 22] 22 #[v, .slice A m c]).run Tryd.prog V = .ok (.slice A1 (n + m) c1) W1 ∧ W1.ownsRow w5.heap.size 46 2 (.slice A1 (n + m) c1) (n + m) (xs ++ cs) ∧ Below w5.heap.size w5 W1 ∧
      (∀ q t u, q < V.heap.size → v.ownBlock ≠ some q → Blk V q t u → Blk W1 q t u ∧ (Value.slice A1 (n + m) c1).ownBlock ≠ some q) := by
  obtain ⟨A1, c1, W1, r1, o1, g1, k1⟩ := append_parts (c := c) 22 hB.size hown hl h1 (hs.below hB) hlen
  refine ⟨A1, c1, W1, r1, o1, hB.grown g1 hB.size (fun k hk => (hown.lt k hk).1), fun q t u hq hv hb => ⟨hb.grown g1 (Ne.symm hv), fun e => ?_⟩⟩
  rcases k1 with k1 | k1
  · rw [k1] at e; exact hv e
  · rw [k1] at e
    have := Option.some.inj e
    omega
/-- The last store, into the block that had come before the last append. -/
theorem fin5 {w5 W2 : World} {A2 : Option Addr} {c2 N q : Nat} {cs : List Value} {rs : List PtB} {x y z : Value} (su bo : ByteArray) (row : W2.ownsRow w5.heap.size 46 2 (.slice A2 N c2) N cs) (hne : (Value.slice A2 N c2).ownBlock ≠ some q) (Y : Blk W2 q 24 #[x, y, z]) (hB : Below w5.heap.size w5 W2) (hq : w5.heap.size ≤ q) (hpc : PCells w5 cs rs) (hl : rs.length = N) (hn : N ≤ 1000000) (hs : ∀ p, p ∈ rs → p.1.size ≤ maxLen) :
    w5.heap.size ≤ q ∧ Blk (((W2.setCell ⟨q, 0, none⟩ (.string su)).setCell ⟨q, 1, none⟩ (.string bo)).setCell ⟨q, 2, none⟩ (.slice A2 N c2)) q 24 #[.string su, .string bo, .slice A2 N c2] ∧ PartsAt (((W2.setCell ⟨q, 0, none⟩ (.string su)).setCell ⟨q, 1, none⟩ (.string bo)).setCell ⟨q, 2, none⟩ (.slice A2 N c2)) A2 N rs ∧ Below w5.heap.size w5 (((W2.setCell ⟨q, 0, none⟩ (.string su)).setCell ⟨q, 1, none⟩ (.string bo)).setCell ⟨q, 2, none⟩ (.slice A2 N c2)) := by
  have hB' := ((hB.setCell (p := ⟨q, 0, none⟩) hq (.string su)).setCell (p := ⟨q, 1, none⟩) hq (.string bo)).setCell (p := ⟨q, 2, none⟩) hq (.slice A2 N c2)
  refine ⟨hq, Blk.set3 _ _ _ Y, ?_, hB'⟩
  exact parts_of_row (own_set (own_set (own_set row (p := ⟨q, 0, none⟩) hne _) (p := ⟨q, 1, none⟩) hne _) (p := ⟨q, 2, none⟩) hne _) (hpc.below hB') hl hn hs
theorem fin5n {w5 W2 : World} {A2 : Option Addr} {c2 N : Nat} {cs : List Value} {rs : List PtB} (su bo : ByteArray) (row : W2.ownsRow w5.heap.size 46 2 (.slice A2 N c2) N cs) (hB : Below w5.heap.size w5 W2) (hpc : PCells w5 cs rs) (hl : rs.length = N) (hn : N ≤ 1000000) (hs : ∀ p, p ∈ rs → p.1.size ≤ maxLen) :
    w5.heap.size ≤ W2.heap.size ∧ Blk (W2.alloc (.cells #[.string su, .string bo, .slice A2 N c2] 24)) W2.heap.size 24 #[.string su, .string bo, .slice A2 N c2] ∧ PartsAt (W2.alloc (.cells #[.string su, .string bo, .slice A2 N c2] 24)) A2 N rs ∧ Below w5.heap.size w5 (W2.alloc (.cells #[.string su, .string bo, .slice A2 N c2] 24)) :=
  ⟨hB.size, Blk.new _ _ _, parts_of_row (row.alloc _) (hpc.below (hB.alloc hB.size _)) hl hn hs, hB.alloc hB.size _⟩
/-- An append at a step of a region that draws its order, its run known. -/
theorem step_app_run {w w' : World} {ops : Array Oper} {o : Oper} {a : Act} {K : Act → World → Prop} {Q : Exit → Act → World → Prop} {E : Prop} (hgd : o.guard = none) (s x : Operand) (t : TypeId)
    (ho : o.op = .call { callee := .builtin .append, args := #[s, x], argTypes := #[t, t] }) (v u r : Value) (hs : a.eval s = v) (hx : a.eval x = u)
    (hrun : (Builtin.append_ #[t, t] o.type #[v, u]).run Tryd.prog w = .ok r w') (h : K (a.put o.dst r) w') : if Region.wanted o (yielded ops a.tmps) = true then Oper.wp Tryd.prog o a w K Q else E := by
  have hw : Region.wanted o (yielded ops a.tmps) = true := by simp [Region.wanted, hgd]
  rw [if_pos hw]
  unfold Oper.wp execOp
  simp only [ho, resolve, invoke, builtin, Sem.run_bind, Sem.run_pure, Result.andThen_ok, List.map_toArray, List.map_cons, List.map_nil, hs, hx, hrun]
  exact h
/-- The world is that one, letter for letter. -/
theorem world_is {P : Program} {o : Oper} {a : Act} {K : Act → World → Prop} {Q : Exit → Act → World → Prop} {E p : Prop} [Decidable p] (W : World) (h : if p then Oper.wp P o a W K Q else E) : if p then Oper.wp P o a W K Q else E := h
theorem acy_of {ops : Array Oper} (h : ((List.range ops.size).all fun i => ((ops[i]?).map fun o => o.after.all fun e => !(Region.binds .any e) || decide (e.on < i)).getD true) = true) : ∀ (i : Nat) o, ops[i]? = some o → ∀ e ∈ o.after, Region.binds .any e = true → e.on < i := by
  intro i o ho e he hb
  have hi : i < ops.size := (Array.getElem?_eq_some_iff.1 ho).1
  have h1 := List.all_eq_true.1 h i (List.mem_range.2 hi)
  rw [ho] at h1
  simp only [Option.map_some, Option.getD_some, Array.all_eq_true_iff_forall_mem] at h1
  have h2 := h1 e he
  rw [hb] at h2
  simpa using h2
section
variable {P : Program} {o : Oper} {a : Act} {w w' : World} {K : Act → World → Prop} {Q : Exit → Act → World → Prop}
theorem wp_val {v : Value} (h : (execOp a.eval o).run P w = .ok (.value v) w') (k : K (a.put o.dst v) w') : o.wp P a w K Q := by
  unfold Oper.wp; rw [h]; exact k
theorem wp_skip (h : (execOp a.eval o).run P w = .ok .skip w') (k : K (a.put o.dst undef) w') : o.wp P a w K Q := by
  unfold Oper.wp; rw [h]; exact k
theorem wp_enter {f : FuncId} {args : Array Value} {R : Ending → World → Prop} (h : (execOp a.eval o).run P w = .ok (.enter f args) w') (hc : Calls P f args w' R) (k : ∀ e w'', R e w'' → ∃ v, e = .returned v ∧ K (a.put o.dst v) w'') : o.wp P a w K Q := by
  unfold Oper.wp; rw [h]
  exact hc.mono fun e w'' hr => by obtain ⟨v, rfl, hk⟩ := k e w'' hr; exact hk
end
theorem put_defersD (a : Act) (d : Option Tmp) (v : Value) : (a.put d v).defers = a.defers := by cases d <;> rfl
theorem act_ext {a b : Act} (h1 : a.tmps.size = b.tmps.size) (h2 : a.defers = b.defers) (h3 : ∀ t, sl a t = sl b t) : a = b := by
  obtain ⟨ta, da⟩ := a
  obtain ⟨tb, db⟩ := b
  have e : ta = tb := Array.ext h1 (fun i hi hj => by
    have := h3 i
    unfold sl at this
    simpa [Array.getD_eq_getD_getElem?, Array.getElem?_eq_getElem hi, Array.getElem?_eq_getElem hj] using this)
  subst e
  have e2 : da = db := h2
  subst e2; rfl
theorem R19.frame {w0 : World} {a0 : Act} {vals : Nat → Value} {tots : Nat → Array Value} {f : Nat → Bool} {a : Act} {w : World} (h : R19 w0 a0 vals tots f a w) (h0 : a0.tmps.size = 134) :
    a = ((((((((a0.put (some 113) (sl a 113)).put (some 114) (sl a 114)).put (some 115) (sl a 115)).put (some 116) (sl a 116)).put (some 117) (sl a 117)).put (some 118) (sl a 118)).put (some 12) (sl a 12)).put (some 13) (sl a 13)).put (some 14) (sl a 14) := by
  refine act_ext (by simp only [put_size]; rw [h.size, h0]) (by simp only [put_defersD]; exact h.defers) fun t => ?_
  rw [sl_put _ _ _ _ (by simp only [put_size]; omega), sl_put _ _ _ _ (by simp only [put_size]; omega), sl_put _ _ _ _ (by simp only [put_size]; omega), sl_put _ _ _ _ (by simp only [put_size]; omega), sl_put _ _ _ _ (by simp only [put_size]; omega), sl_put _ _ _ _ (by simp only [put_size]; omega), sl_put _ _ _ _ (by simp only [put_size]; omega), sl_put _ _ _ _ (by simp only [put_size]; omega), sl_put _ _ _ _ (by omega)]
  by_cases e1 : t = 14
  · subst e1; simp
  · by_cases e2 : t = 13
    · subst e2; simp
    · by_cases e3 : t = 12
      · subst e3; simp
      · rw [if_neg e1, if_neg e2, if_neg e3]
        by_cases hr : 113 ≤ t ∧ t ≤ 118
        · rcases (by omega : t = 113 ∨ t = 114 ∨ t = 115 ∨ t = 116 ∨ t = 117 ∨ t = 118) with rfl | rfl | rfl | rfl | rfl | rfl <;> simp
        · rw [if_neg (by omega), if_neg (by omega), if_neg (by omega), if_neg (by omega), if_neg (by omega), if_neg (by omega)]
          exact h.keep t (by omega) hr
theorem below8 {W : World} {p : Nat} (y0 y1 y2 y3 y4 y5 y6 y7 : Value) : Below 0 W ((((((((W.setCell ⟨p, 0, none⟩ y0).setCell ⟨p, 1, none⟩ y1).setCell ⟨p, 2, none⟩ y2).setCell ⟨p, 3, none⟩ y3).setCell ⟨p, 4, none⟩ y4).setCell ⟨p, 5, none⟩ y5).setCell ⟨p, 6, none⟩ y6).setCell ⟨p, 7, none⟩ y7) := (((((((((Below.refl 0 W).setCell (p := ⟨p, 0, none⟩) (Nat.zero_le _) y0).setCell (p := ⟨p, 1, none⟩) (Nat.zero_le _) y1).setCell (p := ⟨p, 2, none⟩) (Nat.zero_le _) y2).setCell (p := ⟨p, 3, none⟩) (Nat.zero_le _) y3).setCell (p := ⟨p, 4, none⟩) (Nat.zero_le _) y4).setCell (p := ⟨p, 5, none⟩) (Nat.zero_le _) y5).setCell (p := ⟨p, 6, none⟩) (Nat.zero_le _) y6).setCell (p := ⟨p, 7, none⟩) (Nat.zero_le _) y7)
theorem size8 {W : World} {p : Nat} (y0 y1 y2 y3 y4 y5 y6 y7 : Value) : ((((((((W.setCell ⟨p, 0, none⟩ y0).setCell ⟨p, 1, none⟩ y1).setCell ⟨p, 2, none⟩ y2).setCell ⟨p, 3, none⟩ y3).setCell ⟨p, 4, none⟩ y4).setCell ⟨p, 5, none⟩ y5).setCell ⟨p, 6, none⟩ y6).setCell ⟨p, 7, none⟩ y7).heap.size = W.heap.size := by simp [World.setCell]
theorem R19.stored8 {w0 : World} {a0 : Act} {vals : Nat → Value} {tots : Nat → Array Value} {f : Nat → Bool} {a : Act} {W : World} (h : R19 w0 a0 vals tots f a W) {k i p : Nat} {v : Value} (hk : k < 3) (hi : i = 9 + k) (hf : f (6 + k) = true) (hp : sl a (12 + k) = .pointer (some ⟨p, 0, none⟩)) (y0 y1 y2 y3 y4 y5 y6 y7 : Value) {x0 x1 x2 x3 x4 x5 x6 x7 : Value} (hb : Blk W p 31 #[x0, x1, x2, x3, x4, x5, x6, x7]) (ht : tots k = #[y0, y1, y2, y3, y4, y5, y6, y7]) : R19 w0 a0 vals tots (upF f i) (a.put none v) ((((((((W.setCell ⟨p, 0, none⟩ y0).setCell ⟨p, 1, none⟩ y1).setCell ⟨p, 2, none⟩ y2).setCell ⟨p, 3, none⟩ y3).setCell ⟨p, 4, none⟩ y4).setCell ⟨p, 5, none⟩ y5).setCell ⟨p, 6, none⟩ y6).setCell ⟨p, 7, none⟩ y7) := by
  have hB := below8 (W := W) (p := p) y0 y1 y2 y3 y4 y5 y6 y7
  exact h.stored hk hi hf hp (by rw [ht]; exact Blk.set8 _ _ _ _ _ _ _ _ hb) (fun j hj => far8 _ _ _ _ _ _ _ _ j hj) hB.os hB.tape hB.output (size8 _ _ _ _ _ _ _ _)
end Go.Proofs.YtplenagncmhhoaaDoor
