/- nfa.Compile. Plain facts: following forks, state by state; how much is left. No program. -/
import Derived.Test.YtjnhmcgjeljcmaaOj
import Derived.Test.YtjnhmcgjeljcmaaOg
namespace Go.Proofs.Ytjnhmcgjeljcmaa
open Go.RowKit Go.Maps

theorem zero_state (W : World) : (Instr.makeSlice 149 (.int .i64 1) (.int .i64 1)).run Try.prog W = .ok (.slice (some ⟨W.heap.size, 0, none⟩) 1 1) (W.alloc (.cells (stC ⟨fun _ => false, false, []⟩ (.slice none 0 0)) 175)) := by kernel_rfl
/-- What Compile answers of a right tree. -/
def CompOk (w : World) (M : Nat × List St) (e : Ending) (w' : World) : Prop := ∃ pp X, e = .returned (.tuple #[.pointer (some ⟨pp, 0, none⟩), .int .i64 0]) ∧ Mach w' X pp (M.1 : Nat) 0 M.2 ∧ (∀ j, X j → w.heap.size ≤ j) ∧ Below w.heap.size w w'
theorem Mach.setStart {w : World} {X : Nat → Prop} {pp : Nat} {start steps start' : Int} {S : List St} (h : Mach w X pp start steps S) : Mach (w.setCell ⟨pp, 1, none⟩ (.int .i64 start')) X pp start' steps S := by
  obtain ⟨v, rs, h1, h2, h3⟩ := h
  have hk : ∀ b, b ≠ pp → (w.setCell ⟨pp, 1, none⟩ (.int .i64 start')).heap[b]? = w.heap[b]? := fun b hb => Below.heap_setCell w _ _ b hb
  exact ⟨v, rs, h1, ⟨h2.top.set_ 1 _, row_keep h2.own fun b hb => hk b (fun e => h2.vpp (e ▸ hb)), fun q r hq => row_keep (h2.next q r hq) fun b hb => hk b (h2.apart q r b hq hb).1, h2.apart, h2.inj, h2.vpp⟩, h3⟩
theorem mach_new {w : World} {sb pp : Nat} {start steps : Int} (h1 : Blk w sb 175 (stC ⟨fun _ => false, false, []⟩ (.slice none 0 0))) (h2 : Blk w pp 151 #[.slice (some ⟨sb, 0, none⟩) 1 1, .int .i64 start, .int .i64 steps]) (hne : sb ≠ pp) : Mach w (fun j => j = pp ∨ j = sb) pp start steps [⟨fun _ => false, false, []⟩] := by
  refine ⟨.slice (some ⟨sb, 0, none⟩) 1 1, [⟨⟨fun _ => false, false, []⟩, .slice none 0 0⟩], rfl, ⟨h2, ⟨by simp [SR.len], .inr ⟨sb, 1, _, rfl, Nat.zero_le _, h1, Nat.le_refl _, by decide, by rw [stC_size], ?_⟩⟩, fun q r hq => ?_, fun q r b hq hb => ?_, fun q r q' r' b hq hq' hb hb' => ?_, fun e => hne (Option.some.inj e)⟩, fun j => ⟨fun h => ?_, fun h => ?_⟩⟩
  · rw [List.take_of_length_le (by rw [Array.length_toList, stC_size]; simp)]
    simp [SR.cells]
  · match q, hq with
    | 0, hq => simp at hq; subst hq; exact ⟨rfl, .inl ⟨rfl, rfl⟩⟩
  · match q, hq with
    | 0, hq => simp at hq; subst hq; cases hb
  · match q, hq with
    | 0, hq => simp at hq; subst hq; cases hb
  · rcases h with rfl | h | ⟨q, r, hq, hb⟩
    · exact .inl rfl
    · exact .inr (Option.some.inj h).symm
    · match q, hq with
      | 0, hq => simp at hq; subst hq; cases hb
  · rcases h with rfl | rfl
    · exact .inl rfl
    · exact .inr (.inl rfl)
set_option maxHeartbeats 1000000 in
set_option maxRecDepth 100000 in
theorem compile_ok {d : Nat} {t : Tr} {v0 v1 v2 : Value} {w : World} (h : TreeAt w (· < w.heap.size) d t [v0, v1, v2]) (hg : GoodT d t) (hn : nodesT d t ≤ 1000) (hh : highT d t ≤ 300) :
    Calls Try.prog 63 #[.agg #[v0, v1, v2]] w (CompOk w (machT d t)) := by
  obtain ⟨tk, tA, tn, tc, tA', tn', tc', rfl, rfl, rfl⟩ := tree_shape h
  have HX := Lib.hid (show ∀ c : Nat, c = 300 → highT d t ≤ c from fun c e => e ▸ hh)
  have b1 : Below w.heap.size w ((w.alloc (.cells #[.int .i64 tk, .slice tA tn tc, .slice tA' tn' tc'] 26)).alloc (.cells #[.int .i64 0, .bool false, .bool false] 171)) := ((Below.refl _ w).alloc (Nat.le_refl _) _).alloc (by simp) _
  have k0 : Blk ((w.alloc (.cells #[.int .i64 tk, .slice tA tn tc, .slice tA' tn' tc'] 26)).alloc (.cells #[.int .i64 0, .bool false, .bool false] 171)) w.heap.size 26 #[.int .i64 tk, .slice tA tn tc, .slice tA' tn' tc'] := (Blk.new w _ _).alloc _
  have k1 : Blk ((w.alloc (.cells #[.int .i64 tk, .slice tA tn tc, .slice tA' tn' tc'] 26)).alloc (.cells #[.int .i64 0, .bool false, .bool false] 171)) (w.heap.size + 1) 171 #[.int .i64 0, .bool false, .bool false] := by
    have := Blk.new (w.alloc (.cells #[.int .i64 tk, .slice tA tn tc, .slice tA' tn' tc'] 26)) 171 #[.int .i64 0, .bool false, .bool false]
    simpa using this
  have hsz : ((w.alloc (.cells #[.int .i64 tk, .slice tA tn tc, .slice tA' tn' tc'] 26)).alloc (.cells #[.int .i64 0, .bool false, .bool false] 171)).heap.size = w.heap.size + 2 := by simp
  have HC := Lib.hid (count_any d t _ _ _ ((w.alloc (.cells #[.int .i64 tk, .slice tA tn tc, .slice tA' tn' tc'] 26)).alloc (.cells #[.int .i64 0, .bool false, .bool false] 171)) (w.heap.size + 1) 0 1 false false ((h.keep fun i hi => b1.block i hi).mono fun i hi => ⟨by omega, by omega⟩) k1 (by omega) (by omega))
  have HTR := Lib.hid h
  have K0 := Lib.hid k0
  have B1 := Lib.hid b1
  obtain ⟨x0, x1, x2, -, -, -⟩ := blk3 k0
  rw [good_wrong d t hg] at HC
  have HG := Lib.hid hg
  have hn' := hn
  clear h k0 k1 b1 hg
  go_enter Try.func63, Try.ntmps63
  go_wp2_with fail
  refine HC.out.mono ?_
  rintro e w2 ⟨rfl, hb2, hk2⟩
  have kn := (hk2.block _ K0.out.lt (by omega)).trans K0.out
  have b2 : Below w.heap.size w w2 := B1.out.trans ⟨hk2.os, hk2.tape, hk2.output, hk2.size, fun j hj => hk2.block j (by omega) (by omega)⟩
  obtain ⟨p0, p1, p2, f0, f1, f2⟩ := count_cells hb2
  obtain ⟨x0, x1, x2, -, -, -⟩ := blk3 (show Blk w2 w.heap.size 26 #[.int .i64 tk, .slice tA tn tc, .slice tA' tn' tc'] from kn)
  have hl2 := hb2.lt
  obtain ⟨SV, hSV⟩ : ∃ SV, SV = stC ⟨fun _ => false, false, []⟩ (.slice none 0 0) := ⟨_, rfl⟩
  have hmk := fun W => zero_state W
  rw [← hSV] at hmk
  have m1 : Blk (w2.alloc (.cells SV 175)) w2.heap.size 175 SV := Blk.new w2 _ _
  have m2 : Blk ((w2.alloc (.cells SV 175)).alloc (.cells #[.slice (some ⟨w2.heap.size, 0, none⟩) 1 1, .int .i64 0, .int .i64 0] 151)) (w2.heap.size + 1) 151 #[.slice (some ⟨w2.heap.size, 0, none⟩) 1 1, .int .i64 0, .int .i64 0] := by
    have := Blk.new (w2.alloc (.cells SV 175)) 151 #[.slice (some ⟨w2.heap.size, 0, none⟩) 1 1, .int .i64 0, .int .i64 0]
    simpa using this
  have b4 : Below w2.heap.size w2 ((w2.alloc (.cells SV 175)).alloc (.cells #[.slice (some ⟨w2.heap.size, 0, none⟩) 1 1, .int .i64 0, .int .i64 0] 151)) := ((Below.refl _ w2).alloc (Nat.le_refl _) _).alloc (by simp) _
  have hs4 : ((w2.alloc (.cells SV 175)).alloc (.cells #[.slice (some ⟨w2.heap.size, 0, none⟩) 1 1, .int .i64 0, .int .i64 0] 151)).heap.size = w2.heap.size + 2 := by simp
  have hmm := mach_new (hSV ▸ m1.alloc (.cells #[.slice (some ⟨w2.heap.size, 0, none⟩) 1 1, .int .i64 0, .int .i64 0] 151)) m2 (by omega)
  have HA := Lib.hid (ahead_any d t _ _ _ _ _ _ _ _ _ 0 ((((HTR.out.keep fun i hi => b2.block i hi).keep (w' := (w2.alloc (.cells SV 175)).alloc (.cells #[.slice (some ⟨w2.heap.size, 0, none⟩) 1 1, .int .i64 0, .int .i64 0] 151)) fun i hi => b4.block i (by have := b2.size; omega)).mono fun i hi => ⟨by have := b2.size; omega, fun hx => by have := b2.size; rcases hx with hx | hx <;> omega⟩)) HG.out hmm (by decide) (by simp; omega))
  have B2 := Lib.hid b2
  have B4 := Lib.hid b4
  have hMT : aheadT d t 0 [⟨fun _ => false, false, []⟩] = machT d t := rfl
  rw [hMT] at HA
  obtain ⟨y0, y1, y2, -, -, -⟩ := blk3 (show Blk ((w2.alloc (.cells SV 175)).alloc (.cells #[.slice (some ⟨w2.heap.size, 0, none⟩) 1 1, .int .i64 0, .int .i64 0] 151)) w.heap.size 26 #[.int .i64 tk, .slice tA tn tc, .slice tA' tn' tc'] from (b4.block _ (by omega)).trans kn)
  clear m1 m2 b4 hmm kn hb2 hk2 hSV hMT b2 HC HTR HG HX x0 x1 x2
  go_wp2_with fail
  refine HA.out.mono ?_
  rintro e w5 ⟨rfl, X, hm5, hx5, hk5⟩
  have htop := hm5
  obtain ⟨v, rs, h1, h2, h3⟩ := htop
  have q1 := h2.top.cell 1
  have g1 := h2.top.frozen 1
  have HFIN := Lib.hid (show CompOk w (machT d t) (.returned (.tuple #[.pointer (some ⟨w2.heap.size + 1, 0, none⟩), .int .i64 0])) (w5.setCell ⟨w2.heap.size + 1, 1, none⟩ (.int .i64 ((machT d t).1 : Nat))) from
    ⟨w2.heap.size + 1, X, rfl, hm5.setStart, fun j hj => by
      have := B2.out.size
      rcases hx5 j hj with h | h
      · rcases h with h | h <;> omega
      · omega, by
      have := B2.out.size
      refine (B2.out.trans (B4.out.mono this)).trans ⟨hk5.os, hk5.tape, hk5.output, by simpa [World.setCell] using hk5.size, fun j hj => ?_⟩
      rw [Below.heap_setCell w5 _ _ j (by show j ≠ w2.heap.size + 1; omega)]
      exact hk5.block j (by omega) (fun hx => by rcases hx with hx | hx <;> omega)⟩)
  clear hm5 hx5 hk5 h1 h2 h3 HA hmk
  go_wp2
  go_ret2
  exact HFIN.out
set_option maxHeartbeats 1000000 in
set_option maxRecDepth 100000 in
theorem compile_bad {d : Nat} {t : Tr} {v0 v1 v2 : Value} {w : World} (h : TreeAt w (· < w.heap.size) d t [v0, v1, v2]) (hg : wrongT d t = true) (hn : nodesT d t ≤ 1000) (hh : highT d t ≤ 300) :
    Calls Try.prog 63 #[.agg #[v0, v1, v2]] w fun e w' => e = .returned (.tuple #[.pointer none, .int .i64 1]) ∧ Below w.heap.size w w' := by
  obtain ⟨tk, tA, tn, tc, tA', tn', tc', rfl, rfl, rfl⟩ := tree_shape h
  have b1 : Below w.heap.size w ((w.alloc (.cells #[.int .i64 tk, .slice tA tn tc, .slice tA' tn' tc'] 26)).alloc (.cells #[.int .i64 0, .bool false, .bool false] 171)) := ((Below.refl _ w).alloc (Nat.le_refl _) _).alloc (by simp) _
  have k0 : Blk ((w.alloc (.cells #[.int .i64 tk, .slice tA tn tc, .slice tA' tn' tc'] 26)).alloc (.cells #[.int .i64 0, .bool false, .bool false] 171)) w.heap.size 26 #[.int .i64 tk, .slice tA tn tc, .slice tA' tn' tc'] := (Blk.new w _ _).alloc _
  have k1 : Blk ((w.alloc (.cells #[.int .i64 tk, .slice tA tn tc, .slice tA' tn' tc'] 26)).alloc (.cells #[.int .i64 0, .bool false, .bool false] 171)) (w.heap.size + 1) 171 #[.int .i64 0, .bool false, .bool false] := by
    have := Blk.new (w.alloc (.cells #[.int .i64 tk, .slice tA tn tc, .slice tA' tn' tc'] 26)) 171 #[.int .i64 0, .bool false, .bool false]
    simpa using this
  have hsz : ((w.alloc (.cells #[.int .i64 tk, .slice tA tn tc, .slice tA' tn' tc'] 26)).alloc (.cells #[.int .i64 0, .bool false, .bool false] 171)).heap.size = w.heap.size + 2 := by simp
  have HC := Lib.hid (count_any d t _ _ _ ((w.alloc (.cells #[.int .i64 tk, .slice tA tn tc, .slice tA' tn' tc'] 26)).alloc (.cells #[.int .i64 0, .bool false, .bool false] 171)) (w.heap.size + 1) 0 1 false false ((h.keep fun i hi => b1.block i hi).mono fun i hi => ⟨by omega, by omega⟩) k1 (by omega) (by omega))
  have B1 := Lib.hid b1
  obtain ⟨x0, x1, x2, -, -, -⟩ := blk3 k0
  rw [hg] at HC
  clear h k0 k1 b1 hg
  go_enter Try.func63, Try.ntmps63
  go_wp2_with fail
  refine HC.out.mono ?_
  rintro e w2 ⟨rfl, hb2, hk2⟩
  have HB2 := Lib.hid (show Below w.heap.size w w2 from B1.out.trans ⟨hk2.os, hk2.tape, hk2.output, hk2.size, fun j hj => hk2.block j (by omega) (by omega)⟩)
  obtain ⟨p0, p1, p2, f0, f1, f2⟩ := count_cells hb2
  clear hb2 hk2 HC
  go_wp2
  go_ret2
  exact ⟨rfl, HB2.out⟩
end Go.Proofs.Ytjnhmcgjeljcmaa
namespace Go.Proofs.Ytjnhmcgjeljcmaa

/-- Within reach: what is left to follow is st; W0 is the walk ahead of it. -/
structure RInv (M : List St) (W0 : WS) (first frm at_ : Nat) (st : List Nat) (W : WS) : Prop where
  len : W.seen.length = W0.seen.length
  mark : ∀ q : Nat, W.seen[q]? = W0.seen[q]? ∨ (W.seen[q]? = some (at_ + 1) ∧ W0.seen[q]? ≠ some (at_ + 1) ∧ Clo M first q)
  stk : ∀ q, q ∈ st → Clo M first q ∧ q < M.length
  one : first ∈ st ∨ W.seen[first]? = some (at_ + 1)
  clo : ∀ q r : Nat, W.seen[q]? = some (at_ + 1) → W0.seen[q]? ≠ some (at_ + 1) → Fk M q r → r ∈ st ∨ W.seen[r]? = some (at_ + 1)
  held : ∃ hs : List Nat, W.held = W0.held ++ hs.map (fun q => (frm, q)) ∧ hs.Nodup ∧ ∀ q, q ∈ hs ↔ W.seen[q]? = some (at_ + 1) ∧ W0.seen[q]? ≠ some (at_ + 1) ∧ Waits M q
  over : (W.seen[0]? = some (at_ + 1) ∧ W0.seen[0]? ≠ some (at_ + 1) ∧ W.found = true ∧ W.frm = frm ∧ W.to = at_) ∨ (¬ (W.seen[0]? = some (at_ + 1) ∧ W0.seen[0]? ≠ some (at_ + 1)) ∧ W.found = W0.found ∧ W.frm = W0.frm ∧ W.to = W0.to)
/-- A state marked. -/
def WS.marks (W : WS) (q a : Nat) : WS := ⟨W.seen.set q a, W.held, W.found, W.frm, W.to⟩
/-- How many ways on the states have that aren't marked. -/
def muR (M : List St) (seen : List Nat) (a : Nat) : Nat := (M.zipIdx.map fun p => if seen[p.2]? = some a then 0 else p.1.next.length).sum
section
variable {M : List St} {W0 W : WS} {first frm at_ : Nat} {st : List Nat}
theorem RInv.begin_ (hl : first < M.length) : RInv M W first frm at_ [first] W :=
  ⟨rfl, fun _ => .inl rfl, fun q hq => by obtain rfl := List.mem_singleton.1 hq; exact ⟨Clo.rfl' _, hl⟩, .inl (List.mem_singleton_self _), fun q r h h' => (h' h).elim, ⟨[], by simp, List.nodup_nil, fun q => ⟨(fun h => nomatch h), fun h => (h.2.1 h.1).elim⟩⟩, .inr ⟨fun h => h.2 h.1, rfl, rfl, rfl⟩⟩
/-- What is marked already is left. -/
theorem RInv.skip {s : Nat} (h : RInv M W0 first frm at_ (st ++ [s]) W) (hs : W.seen[s]? = some (at_ + 1)) : RInv M W0 first frm at_ st W :=
  ⟨h.len, h.mark, fun q hq => h.stk q (List.mem_append_left _ hq), by
    rcases h.one with e | e
    · rcases List.mem_append.1 e with e | e
      · exact .inl e
      · obtain rfl := List.mem_singleton.1 e; exact .inr hs
    · exact .inr e, fun q r h1 h2 h3 => by
    rcases h.clo q r h1 h2 h3 with e | e
    · rcases List.mem_append.1 e with e | e
      · exact .inl e
      · obtain rfl := List.mem_singleton.1 e; exact .inr hs
    · exact .inr e, h.held, h.over⟩
theorem seen_set {W : WS} {s a : Nat} (hl : s < W.seen.length) (q : Nat) : (W.marks s a).seen[q]? = if q = s then some a else W.seen[q]? := by
  unfold WS.marks
  simp only
  rw [List.getElem?_set]
  by_cases e : s = q
  · subst e; simp [hl]
  · rw [if_neg e, if_neg (fun x => e x.symm)]
theorem old_mark (h : RInv M W0 first frm at_ st W) {s : Nat} (hs : W.seen[s]? ≠ some (at_ + 1)) : W0.seen[s]? ≠ some (at_ + 1) := by
  rcases h.mark s with e | e
  · rw [← e]; exact hs
  · exact e.2.1
/-- A state that isn't marked: the marks, the closedness of those that were, in all ways. -/
theorem RInv.go {s : Nat} {ns : List Nat} {W' : WS} (h : RInv M W0 first frm at_ (st ++ [s]) W) (hs : W.seen[s]? ≠ some (at_ + 1)) (hl : s < W.seen.length) (hse : W'.seen = (W.marks s (at_ + 1)).seen)
    (hns : ∀ r, r ∈ ns ↔ Fk M s r) (hnl : ∀ r, r ∈ ns → r < M.length)
    (hh : (Waits M s ∧ W'.held = W.held ++ [(frm, s)]) ∨ (¬ Waits M s ∧ W'.held = W.held))
    (ho : (s = 0 ∧ W'.found = true ∧ W'.frm = frm ∧ W'.to = at_) ∨ (s ≠ 0 ∧ W'.found = W.found ∧ W'.frm = W.frm ∧ W'.to = W.to)) : RInv M W0 first frm at_ (st ++ ns) W' := by
  have hS : ∀ q : Nat, W'.seen[q]? = if q = s then some (at_ + 1) else W.seen[q]? := fun q => by rw [hse]; exact seen_set hl q
  have hcs := (h.stk s (List.mem_append_right _ (List.mem_singleton_self _))).1
  have h0 := old_mark h hs
  have hin : ∀ q : Nat, (W'.seen[q]? = some (at_ + 1) ∧ W0.seen[q]? ≠ some (at_ + 1)) ↔ q = s ∨ (W.seen[q]? = some (at_ + 1) ∧ W0.seen[q]? ≠ some (at_ + 1)) := fun q => by
    rw [hS q]
    by_cases e : q = s
    · subst e; simp [h0]
    · simp [e]
  have hstk : ∀ q, q ∈ st ++ [s] → q ∈ st ++ ns ∨ W'.seen[q]? = some (at_ + 1) := fun q hq => by
    rcases List.mem_append.1 hq with hq | hq
    · exact .inl (List.mem_append_left _ hq)
    · obtain rfl := List.mem_singleton.1 hq; right; rw [hS]; rw [if_pos rfl]
  have hup : ∀ q : Nat, W.seen[q]? = some (at_ + 1) → W'.seen[q]? = some (at_ + 1) := fun q e => by rw [hS]; split; rfl; exact e
  refine ⟨by rw [hse, ← h.len]; unfold WS.marks; simp, fun q => ?_, fun q hq => ?_, ?_, fun q r h1 h2 h3 => ?_, ?_, ?_⟩
  · rw [hS]
    by_cases e : q = s
    · subst e; rw [if_pos rfl]; exact .inr ⟨rfl, h0, hcs⟩
    · rw [if_neg e]; exact h.mark q
  · rcases List.mem_append.1 hq with hq | hq
    · exact h.stk q (List.mem_append_left _ hq)
    · exact ⟨hcs.snoc ((hns q).1 hq), hnl q hq⟩
  · rcases h.one with e | e
    · exact hstk _ e
    · exact .inr (hup _ e)
  · rcases (hin q).1 ⟨h1, h2⟩ with rfl | ⟨e, _⟩
    · exact .inl (List.mem_append_right _ ((hns r).2 h3))
    · rcases h.clo q r e h2 h3 with e | e
      · exact hstk _ e
      · exact .inr (hup _ e)
  · obtain ⟨hs', e1, e2, e3⟩ := h.held
    have hnot : s ∉ hs' := fun hm => hs ((e3 s).1 hm).1
    rcases hh with ⟨hw, hh⟩ | ⟨hw, hh⟩
    · refine ⟨hs' ++ [s], by rw [hh, e1]; simp, ?_, fun q => ?_⟩
      · rw [List.nodup_append]
        exact ⟨e2, by simp, fun a ha b hb => by obtain rfl := List.mem_singleton.1 hb; rintro rfl; exact hnot ha⟩
      · rw [List.mem_append, e3 q, ← and_assoc, ← and_assoc, hin q, List.mem_singleton]
        constructor
        · rintro (⟨a, b⟩ | rfl)
          · exact ⟨.inr a, b⟩
          · exact ⟨.inl rfl, hw⟩
        · rintro ⟨rfl | a, b⟩
          · exact .inr rfl
          · exact .inl ⟨a, b⟩
    · refine ⟨hs', by rw [hh, e1], e2, fun q => ?_⟩
      rw [e3 q, ← and_assoc, ← and_assoc, hin q]
      constructor
      · rintro ⟨a, b⟩; exact ⟨.inr a, b⟩
      · rintro ⟨rfl | a, b⟩
        · exact (hw b).elim
        · exact ⟨a, b⟩
  · rcases ho with ⟨rfl, o1, o2, o3⟩ | ⟨hne, o1, o2, o3⟩
    · exact .inl ⟨by rw [hS, if_pos rfl], h0, o1, o2, o3⟩
    · rcases h.over with ⟨p1, p2, p3, p4, p5⟩ | ⟨p1, p2, p3, p4⟩
      · exact .inl ⟨hup _ p1, p2, o1.trans p3, o2.trans p4, o3.trans p5⟩
      · refine .inr ⟨fun e => ?_, o1.trans p2, o2.trans p3, o3.trans p4⟩
        rcases (hin 0).1 e with e | e
        · exact hne e.symm
        · exact p1 e
theorem RInv.out (hc : ∀ q r : Nat, W0.seen[q]? = some (at_ + 1) → Fk M q r → W0.seen[r]? = some (at_ + 1)) (h : RInv M W0 first frm at_ [] W) : ROut M first frm at_ W0 W := by
  have hkeep : ∀ q : Nat, W0.seen[q]? = some (at_ + 1) → W.seen[q]? = some (at_ + 1) := fun q e => by
    rcases h.mark q with e' | e'
    · rw [e', e]
    · exact e'.1
  have hclo : ∀ q, Clo M first q → W.seen[q]? = some (at_ + 1) := fun q ⟨c, hc'⟩ => by
    have key : ∀ (c a : Nat), W.seen[a]? = some (at_ + 1) → itR (Fk M) c a q → W.seen[q]? = some (at_ + 1) := by
      intro c
      induction c with
      | zero => intro a ha e; obtain rfl : a = q := e; exact ha
      | succ c ih =>
        rintro a ha ⟨m, h1, h2⟩
        refine ih m ?_ h2
        by_cases e0 : W0.seen[a]? = some (at_ + 1)
        · exact hkeep m (hc a m e0 h1)
        · rcases h.clo a m ha e0 h1 with e | e
          · exact nomatch e
          · exact e
    refine key c first ?_ hc'
    rcases h.one with e | e
    · exact nomatch e
    · exact e
  have hiff : ∀ q : Nat, (W.seen[q]? = some (at_ + 1) ∧ W0.seen[q]? ≠ some (at_ + 1)) ↔ Clo M first q ∧ W0.seen[q]? ≠ some (at_ + 1) := fun q => by
    constructor
    · rintro ⟨a, b⟩
      rcases h.mark q with e | e
      · rw [e] at a; exact (b a).elim
      · exact ⟨e.2.2, b⟩
    · rintro ⟨a, b⟩; exact ⟨hclo q a, b⟩
  refine ⟨h.len, fun q _ => ⟨fun e => ?_, fun e => ?_⟩, fun q => ?_, ?_, ?_⟩
  · by_cases e0 : W0.seen[q]? = some (at_ + 1)
    · exact .inl e0
    · exact .inr ((hiff q).1 ⟨e, e0⟩).1
  · rcases e with e | e
    · exact hkeep q e
    · exact hclo q e
  · rcases h.mark q with e | e
    · exact .inl e
    · exact .inr e.1
  · obtain ⟨hs, e1, e2, e3⟩ := h.held
    exact ⟨hs, e1, e2, fun q => by rw [e3 q, ← and_assoc, hiff q, and_assoc]⟩
  · rcases h.over with ⟨p1, p2, p3⟩ | ⟨p1, p3⟩
    · exact .inl ⟨((hiff 0).1 ⟨p1, p2⟩).1, p2, p3⟩
    · exact .inr ⟨fun e => p1 ((hiff 0).2 e), p3⟩
theorem muR_set {s a : Nat} {x : St} {seen : List Nat} (hs : M[s]? = some x) (hn : seen[s]? ≠ some a) (hl : s < seen.length) : muR M (seen.set s a) a + x.next.length = muR M seen a := by
  unfold muR
  have key : ∀ (L : List St) (k : Nat), k ≤ s → L[s - k]? = some x → ((L.zipIdx k).map fun p => if (seen.set s a)[p.2]? = some a then 0 else p.1.next.length).sum + x.next.length = ((L.zipIdx k).map fun p => if seen[p.2]? = some a then 0 else p.1.next.length).sum := by
    intro L
    induction L with
    | nil => intro k _ h; cases h
    | cons y L ih =>
      intro k hk h
      rw [List.zipIdx_cons, List.map_cons, List.map_cons, List.sum_cons, List.sum_cons]
      by_cases e : k = s
      · subst e
        rw [Nat.sub_self] at h
        obtain rfl : y = x := Option.some.inj h
        have hrest : ∀ (L : List St) (m : Nat), k < m → ((L.zipIdx m).map fun p => if (seen.set k a)[p.2]? = some a then 0 else p.1.next.length).sum = ((L.zipIdx m).map fun p => if seen[p.2]? = some a then 0 else p.1.next.length).sum := by
          intro L
          induction L with
          | nil => intro m _; rfl
          | cons z L ih2 =>
            intro m hm
            rw [List.zipIdx_cons, List.map_cons, List.map_cons, List.sum_cons, List.sum_cons, ih2 (m + 1) (by omega)]
            simp only
            rw [List.getElem?_set_ne (by omega)]
        rw [hrest L (k + 1) (by omega)]
        simp only
        rw [if_neg hn, List.getElem?_set_self hl, if_pos rfl]
        omega
      · have := ih (k + 1) (by omega) (by
          rw [show s - k = (s - (k + 1)) + 1 by omega, List.getElem?_cons_succ] at h; exact h)
        simp only
        rw [List.getElem?_set_ne (by omega)]
        omega
  exact key M 0 (Nat.zero_le _) (by rw [Nat.sub_zero]; exact hs)
theorem muR_le (seen : List Nat) (a : Nat) : muR M seen a ≤ edgesM M := by
  unfold muR edgesM
  have key : ∀ (L : List St) (k : Nat), ((L.zipIdx k).map fun p => if seen[p.2]? = some a then 0 else p.1.next.length).sum ≤ (L.map fun x => x.next.length).sum := by
    intro L
    induction L with
    | nil => intro k; exact Nat.le_refl _
    | cons y L ih =>
      intro k
      rw [List.zipIdx_cons, List.map_cons, List.sum_cons, List.map_cons, List.sum_cons]
      have := ih (k + 1)
      simp only
      split <;> omega
  exact key M 0
end
end Go.Proofs.Ytjnhmcgjeljcmaa
