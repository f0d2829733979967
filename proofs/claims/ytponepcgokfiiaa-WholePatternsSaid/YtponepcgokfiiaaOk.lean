/- nfa.Compile. -/
import Derived.Test.YtponepcgokfiiaaOj
namespace Go.Proofs.Ytponepcgokfiiaa
open Go.RowKit Go.Maps

theorem zero_state (W : World) : (Instr.makeSlice 128 (.int .i64 1) (.int .i64 1)).run Try.prog W = .ok (.slice (some ⟨W.heap.size, 0, none⟩) 1 1) (W.alloc (.cells (stC ⟨fun _ => false, false, []⟩ (.slice none 0 0)) 172)) := by kernel_rfl
/-- What Compile answers of a right tree. -/
def CompOk (w : World) (M : Nat × List St) (e : Ending) (w' : World) : Prop := ∃ pp X, e = .returned (.tuple #[.pointer (some ⟨pp, 0, none⟩), .int .i64 0]) ∧ Mach w' X pp (M.1 : Nat) 0 M.2 ∧ (∀ j, X j → w.heap.size ≤ j) ∧ Below w.heap.size w w'
theorem Mach.setStart {w : World} {X : Nat → Prop} {pp : Nat} {start steps start' : Int} {S : List St} (h : Mach w X pp start steps S) : Mach (w.setCell ⟨pp, 1, none⟩ (.int .i64 start')) X pp start' steps S := by
  obtain ⟨v, rs, h1, h2, h3⟩ := h
  have hk : ∀ b, b ≠ pp → (w.setCell ⟨pp, 1, none⟩ (.int .i64 start')).heap[b]? = w.heap[b]? := fun b hb => Below.heap_setCell w _ _ b hb
  exact ⟨v, rs, h1, ⟨h2.top.set_ 1 _, row_keep h2.own fun b hb => hk b (fun e => h2.vpp (e ▸ hb)), fun q r hq => row_keep (h2.next q r hq) fun b hb => hk b (h2.apart q r b hq hb).1, h2.apart, h2.inj, h2.vpp⟩, h3⟩
theorem mach_new {w : World} {sb pp : Nat} {start steps : Int} (h1 : Blk w sb 172 (stC ⟨fun _ => false, false, []⟩ (.slice none 0 0))) (h2 : Blk w pp 130 #[.slice (some ⟨sb, 0, none⟩) 1 1, .int .i64 start, .int .i64 steps]) (hne : sb ≠ pp) : Mach w (fun j => j = pp ∨ j = sb) pp start steps [⟨fun _ => false, false, []⟩] := by
  refine ⟨.slice (some ⟨sb, 0, none⟩) 1 1, [⟨⟨fun _ => false, false, []⟩, .slice none 0 0⟩], rfl, ⟨h2, ⟨by simp [SR.len], .inr ⟨sb, 1, _, rfl, Nat.zero_le _, h1, Nat.le_refl _, by decide, by rw [stC_size], ?_⟩⟩, fun q r hq => ?_, fun q r b hq hb => ?_, fun q r q' r' b hq hq' hb hb' => ?_, fun e => hne (Option.some.inj e)⟩, fun j => ⟨fun h => ?_, fun h => ?_⟩⟩
  · rw [List.take_of_length_le (by rw [Array.length_toList, stC_size]; simp)]
    simp [SR.cells]
  · match q, hq with
    | 0, hq => simp at hq; subst hq; exact ⟨rfl, .inl ⟨rfl, rfl⟩⟩
  · match q, hq with
    | 0, hq => simp at hq; subst hq; cases hb
  · match q, hq with
    | 0, hq => simp at hq; subst hq; cases hb
  · rcases h with rfl | h | ⟨q, r, hq, hb⟩
    · exact .inl rfl
    · exact .inr (Option.some.inj h).symm
    · match q, hq with
      | 0, hq => simp at hq; subst hq; cases hb
  · rcases h with rfl | rfl
    · exact .inl rfl
    · exact .inr (.inl rfl)
set_option maxHeartbeats 1000000 in
set_option maxRecDepth 100000 in
theorem compile_ok {d : Nat} {t : Tr} {v0 v1 v2 : Value} {w : World} (h : TreeAt w (· < w.heap.size) d t [v0, v1, v2]) (hg : GoodT d t) (hn : nodesT d t ≤ 1000) (hh : highT d t ≤ 300) :
    Calls Try.prog 54 #[.agg #[v0, v1, v2]] w (CompOk w (machT d t)) := by
  obtain ⟨tk, tA, tn, tc, tA', tn', tc', rfl, rfl, rfl⟩ := tree_shape h
  have HX := Lib.hid (show ∀ c : Nat, c = 300 → highT d t ≤ c from fun c e => e ▸ hh)
  have b1 : Below w.heap.size w ((w.alloc (.cells #[.int .i64 tk, .slice tA tn tc, .slice tA' tn' tc'] 30)).alloc (.cells #[.int .i64 0, .bool false, .bool false] 167)) := ((Below.refl _ w).alloc (Nat.le_refl _) _).alloc (by simp) _
  have k0 : Blk ((w.alloc (.cells #[.int .i64 tk, .slice tA tn tc, .slice tA' tn' tc'] 30)).alloc (.cells #[.int .i64 0, .bool false, .bool false] 167)) w.heap.size 30 #[.int .i64 tk, .slice tA tn tc, .slice tA' tn' tc'] := (Blk.new w _ _).alloc _
  have k1 : Blk ((w.alloc (.cells #[.int .i64 tk, .slice tA tn tc, .slice tA' tn' tc'] 30)).alloc (.cells #[.int .i64 0, .bool false, .bool false] 167)) (w.heap.size + 1) 167 #[.int .i64 0, .bool false, .bool false] := by
    have := Blk.new (w.alloc (.cells #[.int .i64 tk, .slice tA tn tc, .slice tA' tn' tc'] 30)) 167 #[.int .i64 0, .bool false, .bool false]
    simpa using this
  have hsz : ((w.alloc (.cells #[.int .i64 tk, .slice tA tn tc, .slice tA' tn' tc'] 30)).alloc (.cells #[.int .i64 0, .bool false, .bool false] 167)).heap.size = w.heap.size + 2 := by simp
  have HC := Lib.hid (count_any d t _ _ _ ((w.alloc (.cells #[.int .i64 tk, .slice tA tn tc, .slice tA' tn' tc'] 30)).alloc (.cells #[.int .i64 0, .bool false, .bool false] 167)) (w.heap.size + 1) 0 1 false false ((h.keep fun i hi => b1.block i hi).mono fun i hi => ⟨by omega, by omega⟩) k1 (by omega) (by omega))
  have HTR := Lib.hid h
  have K0 := Lib.hid k0
  have B1 := Lib.hid b1
  obtain ⟨x0, x1, x2, -, -, -⟩ := blk3 k0
  rw [good_wrong d t hg] at HC
  have HG := Lib.hid hg
  have hn' := hn
  clear h k0 k1 b1 hg
  go_enter Try.func54, Try.ntmps54
  go_wp2_with fail
  refine HC.out.mono ?_
  rintro e w2 ⟨rfl, hb2, hk2⟩
  have kn := (hk2.block _ K0.out.lt (by omega)).trans K0.out
  have b2 : Below w.heap.size w w2 := B1.out.trans ⟨hk2.os, hk2.tape, hk2.output, hk2.size, fun j hj => hk2.block j (by omega) (by omega)⟩
  obtain ⟨p0, p1, p2, f0, f1, f2⟩ := count_cells hb2
  obtain ⟨x0, x1, x2, -, -, -⟩ := blk3 (show Blk w2 w.heap.size 30 #[.int .i64 tk, .slice tA tn tc, .slice tA' tn' tc'] from kn)
  have hl2 := hb2.lt
  obtain ⟨SV, hSV⟩ : ∃ SV, SV = stC ⟨fun _ => false, false, []⟩ (.slice none 0 0) := ⟨_, rfl⟩
  have hmk := fun W => zero_state W
  rw [← hSV] at hmk
  have m1 : Blk (w2.alloc (.cells SV 172)) w2.heap.size 172 SV := Blk.new w2 _ _
  have m2 : Blk ((w2.alloc (.cells SV 172)).alloc (.cells #[.slice (some ⟨w2.heap.size, 0, none⟩) 1 1, .int .i64 0, .int .i64 0] 130)) (w2.heap.size + 1) 130 #[.slice (some ⟨w2.heap.size, 0, none⟩) 1 1, .int .i64 0, .int .i64 0] := by
    have := Blk.new (w2.alloc (.cells SV 172)) 130 #[.slice (some ⟨w2.heap.size, 0, none⟩) 1 1, .int .i64 0, .int .i64 0]
    simpa using this
  have b4 : Below w2.heap.size w2 ((w2.alloc (.cells SV 172)).alloc (.cells #[.slice (some ⟨w2.heap.size, 0, none⟩) 1 1, .int .i64 0, .int .i64 0] 130)) := ((Below.refl _ w2).alloc (Nat.le_refl _) _).alloc (by simp) _
  have hs4 : ((w2.alloc (.cells SV 172)).alloc (.cells #[.slice (some ⟨w2.heap.size, 0, none⟩) 1 1, .int .i64 0, .int .i64 0] 130)).heap.size = w2.heap.size + 2 := by simp
  have hmm := mach_new (hSV ▸ m1.alloc (.cells #[.slice (some ⟨w2.heap.size, 0, none⟩) 1 1, .int .i64 0, .int .i64 0] 130)) m2 (by omega)
  have HA := Lib.hid (ahead_any d t _ _ _ _ _ _ _ _ _ 0 ((((HTR.out.keep fun i hi => b2.block i hi).keep (w' := (w2.alloc (.cells SV 172)).alloc (.cells #[.slice (some ⟨w2.heap.size, 0, none⟩) 1 1, .int .i64 0, .int .i64 0] 130)) fun i hi => b4.block i (by have := b2.size; omega)).mono fun i hi => ⟨by have := b2.size; omega, fun hx => by have := b2.size; rcases hx with hx | hx <;> omega⟩)) HG.out hmm (by decide) (by simp; omega))
  have B2 := Lib.hid b2
  have B4 := Lib.hid b4
  have hMT : aheadT d t 0 [⟨fun _ => false, false, []⟩] = machT d t := rfl
  rw [hMT] at HA
  obtain ⟨y0, y1, y2, -, -, -⟩ := blk3 (show Blk ((w2.alloc (.cells SV 172)).alloc (.cells #[.slice (some ⟨w2.heap.size, 0, none⟩) 1 1, .int .i64 0, .int .i64 0] 130)) w.heap.size 30 #[.int .i64 tk, .slice tA tn tc, .slice tA' tn' tc'] from (b4.block _ (by omega)).trans kn)
  clear m1 m2 b4 hmm kn hb2 hk2 hSV hMT b2 HC HTR HG HX x0 x1 x2
  go_wp2_with fail
  refine HA.out.mono ?_
  rintro e w5 ⟨rfl, X, hm5, hx5, hk5⟩
  have htop := hm5
  obtain ⟨v, rs, h1, h2, h3⟩ := htop
  have q1 := h2.top.cell 1
  have g1 := h2.top.frozen 1
  have HFIN := Lib.hid (show CompOk w (machT d t) (.returned (.tuple #[.pointer (some ⟨w2.heap.size + 1, 0, none⟩), .int .i64 0])) (w5.setCell ⟨w2.heap.size + 1, 1, none⟩ (.int .i64 ((machT d t).1 : Nat))) from
    ⟨w2.heap.size + 1, X, rfl, hm5.setStart, fun j hj => by
      have := B2.out.size
      rcases hx5 j hj with h | h
      · rcases h with h | h <;> omega
      · omega, by
      have := B2.out.size
      refine (B2.out.trans (B4.out.mono this)).trans ⟨hk5.os, hk5.tape, hk5.output, by simpa [World.setCell] using hk5.size, fun j hj => ?_⟩
      rw [Below.heap_setCell w5 _ _ j (by show j ≠ w2.heap.size + 1; omega)]
      exact hk5.block j (by omega) (fun hx => by rcases hx with hx | hx <;> omega)⟩)
  clear hm5 hx5 hk5 h1 h2 h3 HA hmk
  go_wp2
  go_ret2
  exact HFIN.out
set_option maxHeartbeats 1000000 in
set_option maxRecDepth 100000 in
theorem compile_bad {d : Nat} {t : Tr} {v0 v1 v2 : Value} {w : World} (h : TreeAt w (· < w.heap.size) d t [v0, v1, v2]) (hg : wrongT d t = true) (hn : nodesT d t ≤ 1000) (hh : highT d t ≤ 300) :
    Calls Try.prog 54 #[.agg #[v0, v1, v2]] w fun e w' => e = .returned (.tuple #[.pointer none, .int .i64 1]) ∧ Below w.heap.size w w' := by
  obtain ⟨tk, tA, tn, tc, tA', tn', tc', rfl, rfl, rfl⟩ := tree_shape h
  have b1 : Below w.heap.size w ((w.alloc (.cells #[.int .i64 tk, .slice tA tn tc, .slice tA' tn' tc'] 30)).alloc (.cells #[.int .i64 0, .bool false, .bool false] 167)) := ((Below.refl _ w).alloc (Nat.le_refl _) _).alloc (by simp) _
  have k0 : Blk ((w.alloc (.cells #[.int .i64 tk, .slice tA tn tc, .slice tA' tn' tc'] 30)).alloc (.cells #[.int .i64 0, .bool false, .bool false] 167)) w.heap.size 30 #[.int .i64 tk, .slice tA tn tc, .slice tA' tn' tc'] := (Blk.new w _ _).alloc _
  have k1 : Blk ((w.alloc (.cells #[.int .i64 tk, .slice tA tn tc, .slice tA' tn' tc'] 30)).alloc (.cells #[.int .i64 0, .bool false, .bool false] 167)) (w.heap.size + 1) 167 #[.int .i64 0, .bool false, .bool false] := by
    have := Blk.new (w.alloc (.cells #[.int .i64 tk, .slice tA tn tc, .slice tA' tn' tc'] 30)) 167 #[.int .i64 0, .bool false, .bool false]
    simpa using this
  have hsz : ((w.alloc (.cells #[.int .i64 tk, .slice tA tn tc, .slice tA' tn' tc'] 30)).alloc (.cells #[.int .i64 0, .bool false, .bool false] 167)).heap.size = w.heap.size + 2 := by simp
  have HC := Lib.hid (count_any d t _ _ _ ((w.alloc (.cells #[.int .i64 tk, .slice tA tn tc, .slice tA' tn' tc'] 30)).alloc (.cells #[.int .i64 0, .bool false, .bool false] 167)) (w.heap.size + 1) 0 1 false false ((h.keep fun i hi => b1.block i hi).mono fun i hi => ⟨by omega, by omega⟩) k1 (by omega) (by omega))
  have B1 := Lib.hid b1
  obtain ⟨x0, x1, x2, -, -, -⟩ := blk3 k0
  rw [hg] at HC
  clear h k0 k1 b1 hg
  go_enter Try.func54, Try.ntmps54
  go_wp2_with fail
  refine HC.out.mono ?_
  rintro e w2 ⟨rfl, hb2, hk2⟩
  have HB2 := Lib.hid (show Below w.heap.size w w2 from B1.out.trans ⟨hk2.os, hk2.tape, hk2.output, hk2.size, fun j hj => hk2.block j (by omega) (by omega)⟩)
  obtain ⟨p0, p1, p2, f0, f1, f2⟩ := count_cells hb2
  clear hb2 hk2 HC
  go_wp2
  go_ret2
  exact ⟨rfl, HB2.out⟩
end Go.Proofs.Ytponepcgokfiiaa
