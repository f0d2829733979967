/- nfa's walk, made. nfa's Longest. nfa's Find, Steps. What Longest and Find answer, said by trees. -/
import Derived.Test.YtponepcgokfiiaaOp
import Derived.Test.YtponepcgokfiiaaKu
namespace Go.Proofs.Ytponepcgokfiiaa
open Go.RowKit Go.Maps

theorem int_infoN : (Try.prog.info? 3).map (fun i => (i.zero, i.size, i.bytes)) = some (some (.int .i64 0), 1, 8) := by kernel_rfl
/-- A row of ints, made. -/
theorem make_ints (W : World) (n : Nat) (hn : n ≤ 1000000) : (Instr.makeSlice 134 (.int .i64 (n : Int)) (.int .i64 (n : Int))).run Try.prog W = .ok (.slice (some ⟨W.heap.size, 0, none⟩) n n) (W.alloc (.cells (madeCells (Value.int .i64 0).cells n) 3)) := by
  obtain ⟨i0, hi0, hz0, hz1, hz2⟩ := info_parts int_infoN
  have := run_make (P := Try.prog) W 134 3 i0 _ Try.underlying134 hi0 hz0 .i64 .i64 (n : Int) (n : Int) (by omega) (by omega) (by rw [hz2]; omega) (by omega)
  rw [this, Int.toNat_natCast, hz1, Nat.mul_one]
theorem made_ints (n : Nat) : madeCells (Value.int .i64 0).cells n = ((List.replicate n 0).map intV).toArray := by
  apply Array.ext'
  apply List.ext_getElem?
  intro j
  rw [Array.getElem?_toList]
  unfold madeCells
  rw [Array.getElem?_map]
  by_cases h : j < n
  · rw [Array.getElem?_range, if_pos h]
    simp [Value.cells, Nat.mod_one, List.getElem?_replicate, h, intV]
  · rw [Array.getElem?_range, if_neg h]
    simp [List.getElem?_replicate, h]
/-- A walk that has not begun. -/
def ws0 (n : Nat) : WS := ⟨List.replicate n 0, [], false, 0, 0⟩
theorem build_walk (W : World) (pp qb n : Nat) : (Instr.build 137 #[(0, .pointer (some ⟨pp, 0, none⟩)), (1, .slice (some ⟨qb, 0, none⟩) n n)]).run Try.prog W = .ok (.agg #[.pointer (some ⟨pp, 0, none⟩), .slice (some ⟨qb, 0, none⟩) n n, .slice none 0 0, .slice none 0 0, .bool false, .int .i64 0, .int .i64 0, .slice none 0 0]) W := by kernel_rfl
set_option maxHeartbeats 1000000 in
set_option maxRecDepth 100000 in
theorem walk_any {w : World} {X : Nat → Prop} {pp : Nat} {start steps : Int} {S : List St} (hm : Mach w X pp start steps S) (hS : S.length ≤ 100000) (hSl : 0 < S.length) :
    Calls Try.prog 64 #[.pointer (some ⟨pp, 0, none⟩)] w (fun e w' => ∃ (wp : Nat) (Z : Nat → Prop), e = .returned (.pointer (some ⟨wp, 0, none⟩)) ∧ Wk w' Z wp pp (.slice none 0 0) (ws0 S.length) [] ∧ (∀ j, Z j → w.heap.size ≤ j) ∧ Below w.heap.size w w') := by
  obtain ⟨sb, cS, p0, -, -, -, hXsb, hXpp, hsp, cS1, cS2, hrd⟩ := hm.read hSl
  have hmk := fun W => make_ints W S.length (by omega)
  have hbw := fun W => build_walk W pp w.heap.size S.length
  go_enter Try.func64, Try.ntmps64
  go_wp2
  go_ret
  refine ⟨w.heap.size + 1, ZX (w.heap.size + 1) w.heap.size (.slice none 0 0) (.slice none 0 0), rfl, ⟨w.heap.size, .slice none 0 0, .slice none 0 0, ⟨?_, ?_, ?_, ?_, by omega, (fun b h => nomatch h), fun b h => nomatch h⟩, fun _ => Iff.rfl⟩, fun j hj => ?_, ?_⟩
  · have := Blk.new (w.alloc (.cells (madeCells #[Value.int IntKind.i64 0] S.length) 3)) 137 #[.pointer (some ⟨pp, 0, none⟩), .slice (some ⟨w.heap.size, 0, none⟩) S.length S.length, .slice none 0 0, .slice none 0 0, .bool false, .int .i64 0, .int .i64 0, .slice none 0 0]
    simpa [ws0, intV] using this
  · have h1 := Blk.new w 3 (madeCells #[Value.int IntKind.i64 0] S.length)
    have h2 := (Below.heap_alloc (w.alloc (.cells (madeCells #[Value.int IntKind.i64 0] S.length) 3)) (.cells #[.pointer (some ⟨pp, 0, none⟩), .slice (some ⟨w.heap.size, 0, none⟩) S.length S.length, .slice none 0 0, .slice none 0 0, .bool false, .int .i64 0, .int .i64 0, .slice none 0 0] 137) w.heap.size (by simp)).trans h1
    show _ = _
    rw [h2]
    exact congrArg (fun x => some (Obj.cells x 3)) (made_ints S.length)
  · exact ⟨rfl, .inl ⟨rfl, rfl⟩⟩
  · exact ⟨rfl, .inl ⟨rfl, rfl⟩⟩
  · rcases hj with rfl | rfl | h | h
    · omega
    · exact Nat.le_refl _
    · exact nomatch h
    · exact nomatch h
  · exact ((Below.refl _ w).alloc (Nat.le_refl _) _).alloc (by simp) _
end Go.Proofs.Ytponepcgokfiiaa
namespace Go.Proofs.Ytponepcgokfiiaa
open Go.RowKit Go.Maps

/-- What Longest answers. -/
def LongR (S : List St) (s : List UInt8) (start : Nat) (frm r : Int) : Prop :=
  ((frm < 0 ∨ (s.length : Int) < frm) ∧ r = -1) ∨ ∃ f : Nat, frm = (f : Nat) ∧ f ≤ s.length ∧ ((r = -1 ∧ ∀ k, k ≤ s.length → ¬ Rch S s (start, f) (0, k)) ∨ ∃ t : Nat, r = (t : Nat) ∧ t ≤ s.length ∧ Rch S s (start, f) (0, t) ∧ ∀ k, t < k → k ≤ s.length → ¬ Rch S s (start, f) (0, k))
/-- What a call leaves of a machine. -/
def MLeft (w : World) (X : Nat → Prop) (pp : Nat) (start : Int) (S : List St) (n : Nat) (w' : World) : Prop :=
  ∃ steps : Nat, steps ≤ n * S.length ∧ Mach w' X pp start (steps : Nat) S ∧ Kept (fun j => j = pp) w w'
def LongPost (w : World) (X : Nat → Prop) (pp start : Nat) (S : List St) (s : List UInt8) (frm : Int) (e : Ending) (w' : World) : Prop :=
  ∃ r : Int, e = .returned (.int .i64 r) ∧ LongR S s start frm r ∧ MLeft w X pp (start : Nat) S s.length w'
theorem WkS.of {w : World} {Z : Nat → Prop} {wp pp : Nat} {W : WS} (h : Wk w Z wp pp (.slice none 0 0) W []) : WkS w Z wp pp W :=
  ⟨Z, _, 0, [], h, ⟨rfl, .inl ⟨rfl, rfl⟩⟩, (fun b h => nomatch h), fun j => ⟨fun h => h.elim id (fun h => nomatch h), .inl⟩⟩
theorem WkS.keep {w w' : World} {Z : Nat → Prop} {wp pp : Nat} {W : WS} (h : WkS w Z wp pp W) (hk : ∀ b, Z b → b < w.heap.size → w'.heap[b]? = w.heap[b]?) : WkS w' Z wp pp W := by
  obtain ⟨Zr, v3, k, xs, h1, h2, h3, h4⟩ := h
  exact ⟨Zr, v3, k, xs, h1.keep fun b hb hl => hk b ((h4 b).1 (.inl hb)) hl, row_keep h2 fun b hb => hk b ((h4 b).1 (.inr hb)) (h2.lt b hb).2, h3, h4⟩
/-- A walk's cells. -/
theorem WkS.read {w : World} {Z : Nat → Prop} {wp pp : Nat} {W : WS} (h : WkS w Z wp pp W) : ∃ A c, w.cell? ⟨wp, 2, none⟩ = some (.slice A W.held.length c) ∧ w.cell? ⟨wp, 4, none⟩ = some (.bool W.found) ∧ w.cell? ⟨wp, 5, none⟩ = some (.int .i64 (W.frm : Nat)) ∧ w.cell? ⟨wp, 6, none⟩ = some (.int .i64 (W.to : Nat)) ∧ w.cell? ⟨wp, 0, none⟩ = some (.pointer (some ⟨pp, 0, none⟩)) ∧ Z wp ∧ W.held.length ≤ c := by
  obtain ⟨Zr, v3, k, xs, ⟨qb, vh, vu, h1, h2⟩, -, -, h4⟩ := h
  obtain ⟨A, c, rfl, hc, -⟩ := row_form h1.held
  obtain ⟨t0, t1, t2, t3, t4, t5, t6, -⟩ := wk_cells h1.top
  exact ⟨A, c, t2, t4, t5, t6, t0, (h4 wp).1 (.inl ((h2 wp).1 (.inl rfl))), hc⟩
/-- Reach, the spare row kept. -/
theorem reach_all {w : World} {X Z : Nat → Prop} {wp pp : Nat} {start steps : Int} {S : List St} {W : WS} (hm : Mach w X pp start steps S) (hok : MOk S) (hwk : WkS w Z wp pp W) (hd : ∀ j, X j → ¬ Z j) (hsl : W.seen.length = S.length)
    (first frm at_ : Nat) (hf : first < S.length) (hat : at_ ≤ 1000000000000) (hfr : frm ≤ 1000000000000) (he : edgesM S ≤ 100000) (hS : S.length ≤ 100000) (hhl : W.held.length ≤ 100000)
    (hc : ∀ q r : Nat, W.seen[q]? = some (at_ + 1) → Fk S q r → W.seen[r]? = some (at_ + 1)) :
    Calls Try.prog 65 #[.pointer (some ⟨wp, 0, none⟩), .int .i64 (first : Nat), .int .i64 (frm : Nat), .int .i64 (at_ : Nat)] w (fun e w' => e = .returned (.tuple #[]) ∧ ∃ Z' W', WkS w' Z' wp pp W' ∧ ROut S first frm at_ W W' ∧ (∀ j, Z' j → Z j ∨ w.heap.size ≤ j) ∧ Kept Z w w' ∧ Mach w' X pp start steps S) := by
  obtain ⟨Zr, v3, k, xs, h1, h2, h3, h4⟩ := hwk
  have hXl : ∀ j, X j → j < w.heap.size := fun j hj => hm.old hj
  refine (reach_any hm hok h1 (fun j hj hz => hd j hj ((h4 j).1 (.inl hz))) hsl first frm at_ hf hat hfr he hS hhl hc).mono ?_
  rintro e w' ⟨rfl, Z', W', g1, g2, g3, g4⟩
  refine ⟨rfl, fun j => Z' j ∨ v3.ownBlock = some j, W', ⟨Z', v3, k, xs, g1, row_keep h2 fun b hb => g4.block b (h2.lt b hb).2 (h3 b hb), fun b hb hz => ?_, fun _ => Iff.rfl⟩, g2, fun j hj => ?_, g4.mono fun j _ hz => (h4 j).1 (.inl hz), hm.keep fun b hb hl => g4.block b hl fun hz => hd b hb ((h4 b).1 (.inl hz))⟩
  · rcases g3 b hz with hz | hz
    · exact h3 b hb hz
    · have := (h2.lt b hb).2; omega
  · rcases hj with hj | hj
    · rcases g3 j hj with hz | hz
      · exact .inl ((h4 j).1 (.inl hz))
      · exact .inr hz
    · exact .inl ((h4 j).1 (.inr hj))
end Go.Proofs.Ytponepcgokfiiaa
namespace Go.Proofs.Ytponepcgokfiiaa
open Go.RowKit Go.Maps

/-- What Find answers. -/
def FindR (S : List St) (s : List UInt8) (start : Nat) (a b : Int) (ok : Bool) : Prop :=
  (ok = false ∧ a = 0 ∧ b = 0 ∧ ∀ f k, k ≤ s.length → ¬ Rch S s (start, f) (0, k)) ∨
  (ok = true ∧ ∃ f t : Nat, a = (f : Nat) ∧ b = (t : Nat) ∧ f ≤ t ∧ t ≤ s.length ∧ Rch S s (start, f) (0, t) ∧ (∀ k, t < k → k ≤ s.length → ¬ Rch S s (start, f) (0, k)) ∧ ∀ g, g < f → ∀ k, k ≤ s.length → ¬ Rch S s (start, g) (0, k))
def FindPost (w : World) (X : Nat → Prop) (pp start : Nat) (S : List St) (s : List UInt8) (e : Ending) (w' : World) : Prop :=
  ∃ (a b : Int) (ok : Bool), e = .returned (.tuple #[.int .i64 a, .int .i64 b, .bool ok]) ∧ FindR S s start a b ok ∧ MLeft w X pp (start : Nat) S s.length w'
theorem HInv.same {M : List St} {s : List UInt8} {P Q : Nat → Prop} {start at_ : Nat} {W : WS} (h : HInv M s start P at_ W) (hq : ∀ f, P f ↔ Q f) : HInv M s start Q at_ W := (funext fun f => propext (hq f) : P = Q) ▸ h
set_option maxHeartbeats 4000000 in
set_option maxRecDepth 100000 in
theorem find_any {w : World} {X : Nat → Prop} {pp start : Nat} {steps0 : Int} {S : List St} (hm : Mach w X pp (start : Nat) steps0 S) (hok : MOk S) (hst : start < S.length) (s : ByteArray) (hs : s.size ≤ 100000000) (he : edgesM S ≤ 100000) (hS : S.length ≤ 100000) :
    Calls Try.prog 37 #[.pointer (some ⟨pp, 0, none⟩), .string s] w (FindPost w X pp start S s.data.toList) := by
  have hsl : s.data.toList.length = s.size := rfl
  have hSl : 0 < S.length := hok.1
  have hXl : ∀ j, X j → j < w.heap.size := fun j hj => hm.old hj
  have hXpp := hm.at_
  obtain ⟨sb, cS, p0, p1, p2, pf2, -, -, -, -, -, -⟩ := hm.read hSl
  have hm1 := hm.setSteps (steps' := (0 : Int))
  have hk1 : Kept (fun j => j = pp) w (w.setCell ⟨pp, 2, none⟩ (.int .i64 0)) := (Kept.refl (fun j => j = pp) w).set_ (p := ⟨pp, 2, none⟩) (.inl rfl) _
  have HM1 := Lib.hid hm1
  have HK1 := Lib.hid hk1
  have HOK := Lib.hid hok
  have HSL := Lib.hid hsl
  clear hm hm1 hk1 hok hsl p0
  have HW := Lib.hid (walk_any HM1.out hS hSl)
  go_enter Try.func37, Try.ntmps37
  go_wp2_with fail
  refine HW.out.mono ?_
  rintro e w2 ⟨wp, Z, rfl, hwk, hz, hb⟩
  have hz2 : ∀ j, Z j → w.heap.size ≤ j := fun j hj => by have := hz j hj; simpa [World.setCell] using this
  have hm2 := HM1.out.below hb
  have hk2 : Kept (fun j => j = pp) w w2 := HK1.out.trans (kept_below hb) (fun j hj => .inl hj)
  have hdis : ∀ j, X j → ¬ Z j := fun j hj hzj => by have := hXl j hj; have := hz2 j hzj; omega
  have q1 : w2.cell? ⟨pp, 1, none⟩ = some (.int .i64 (start : Nat)) := by obtain ⟨_, _, _, h, _⟩ := hm2.read hSl; exact h
  have HI0 := Lib.hid (HInv.begin_ (M := S) (s := s.data.toList) (start := start) (at_ := 0) S.length rfl)
  have HRE := Lib.hid (show Calls Try.prog 65 #[.pointer (some ⟨wp, 0, none⟩), .int .i64 (start : Nat), .int .i64 0, .int .i64 0] w2 _ from reach_all hm2 HOK.out (WkS.of hwk) hdis HI0.out.len start 0 0 hst (by omega) (by omega) he hS (Nat.zero_le _) HI0.out.clo)
  have HZ2 := Lib.hid hz2
  have HK2 := Lib.hid hk2
  clear hwk hz hz2 hb hm2 hk2 HM1 HK1 HW p1 p2 pf2
  go_wp2_with fail
  refine HRE.out.mono ?_
  rintro e w3 ⟨rfl, Z3, W3, hwk3, hro, hz3, hk3, hm3⟩
  have HWK3 := Lib.hid hwk3
  have HM3 := Lib.hid hm3
  have HI3 := Lib.hid ((HI0.out.starts HOK.out hst (fun f h => h.elim) rfl hro).same (Q := fun g => g ≤ 0) (fun f => ⟨fun h => h.elim False.elim fun e => by omega, fun h => .inr (by omega)⟩))
  have HN3 := Lib.hid (show W3.found = false → W3.frm = 0 ∧ W3.to = 0 from fun hf => by
    rcases hro.over with ⟨_, _, h, _⟩ | ⟨_, _, h1, h2⟩
    · rw [hf] at h; cases h
    · exact ⟨h1, h2⟩)
  have HZ3 := Lib.hid (show ∀ j, Z3 j → w.heap.size ≤ j from fun j hj => by
    rcases hz3 j hj with h | h
    · exact HZ2.out j h
    · exact Nat.le_trans HK2.out.size h)
  have HK3 := Lib.hid (HK2.out.trans hk3 (fun j hj => .inr (HZ2.out j hj)))
  clear hwk3 hro hz3 hk3 hm3 HRE HI0 HZ2 HK2 hdis q1
  go_wp2_with fail
  go_loopw [8] (fun vi wr => ∃ (i : Nat) (W : WS) (Z : Nat → Prop) (st a : Nat), a ≤ i ∧ i ≤ s.size ∧ vi = .int .i64 (i : Nat) ∧ WkS wr Z wp pp W ∧ Mach wr X pp (start : Nat) (st : Nat) S ∧ HInv S s.data.toList start (fun g => g ≤ a) i W ∧ (W.found = false → a = i) ∧ (W.found = false → W.frm = 0 ∧ W.to = 0) ∧ st ≤ i * S.length ∧ (∀ j, Z j → w.heap.size ≤ j) ∧ Kept (fun j => j = pp) w wr) (fun vi _ => s.size - (intOf vi).toNat)
  case atStart => exact ⟨0, W3, Z3, 0, 0, Nat.le_refl _, Nat.zero_le _, rfl, HWK3.out, HM3.out, HI3.out, fun _ => rfl, HN3.out, Nat.zero_le _, HZ3.out, HK3.out⟩
  case round =>
    clear HWK3 HM3 HI3 HZ3 HK3 HN3
    obtain ⟨i, W, Z, st, a, hai, his, rfl, hwk, hmr, hI, haf, hnf, hstp, hz, hkp⟩ := hrel
    obtain ⟨A, c, t2, t4, t5, t6, t0, hZw, hcA⟩ := hwk.read
    have HI := Lib.hid hI
    have HM := Lib.hid hmr
    have HWK := Lib.hid hwk
    have HZ := Lib.hid hz
    have HKP := Lib.hid hkp
    have HAF := Lib.hid haf
    have HNF := Lib.hid hnf
    clear hwk hmr hI hz hkp haf hnf
    by_cases hgo : i < s.size ∧ 0 < W.held.length
    · obtain ⟨hlt, hh⟩ := hgo
      have hlt' : (i : Int) < (s.size : Int) := by omega
      have hh' : (0 : Int) < (W.held.length : Int) := by omega
      have hi0 : (0 : Int) ≤ (i : Int) := by omega
      have hwr : IntKind.i64.wrap ((i : Int) + 1) = (i : Int) + 1 := by rw [IntKind.wrap_i64]; omega
      have hbt := byteAt_eq s i hlt
      have hsum : st ≤ 100000000 * 100000 := Nat.le_trans hstp (Nat.mul_le_mul (by omega) hS)
      have HME := Lib.hid (meet_any HM.out HOK.out HWK.out (fun j hj hzj => by have := hXl j hj; have := HZ.out j hzj; omega) HI.out (fun g hg => Nat.le_trans hg hai) (byteAt s i) (by
        show s.data.toList[i]? = some (byteAt s i)
        rw [← hbt]; exact List.getElem?_eq_getElem (by show i < s.size; exact hlt)) (by omega) he hS (by omega))
      have HSTP := Lib.hid hstp
      clear hstp hsum
      go_wp2_with fail
      refine HME.out.mono ?_
      rintro e w4 ⟨rfl, Z4, W4, st4, hwk4, hm4, hi4, hs4, hz4, hk4, hun⟩
      rw [Int.toNat_natCast] at hi4
      obtain ⟨A4, c4, -, u4, -, -, -, -, -⟩ := hwk4.read
      have HWK4 := Lib.hid hwk4
      have HM4 := Lib.hid hm4
      have HI4 := Lib.hid hi4
      have HS4 := Lib.hid (show st4 ≤ (i + 1) * S.length by rw [Nat.succ_mul]; have := HSTP.out; omega)
      have HZ4 := Lib.hid (show ∀ j, Z4 j → w.heap.size ≤ j from fun j hj => by
        rcases hz4 j hj with h | h
        · exact HZ.out j h
        · exact Nat.le_trans HKP.out.size h)
      have HK4 := Lib.hid (HKP.out.trans hk4 (fun j hj => by
        rcases hj with hj | hj
        · exact .inr (HZ.out j hj)
        · exact .inl hj))
      have HUN := Lib.hid hun
      clear hwk4 hm4 hi4 hs4 hz4 hk4 HME hun
      cases hfo : W4.found
      · rw [hfo] at u4
        obtain ⟨hvf, hfr, hto⟩ := HUN.out hfo
        have hae := HAF.out hvf
        have hfz := HNF.out hvf
        have q1 : w4.cell? ⟨pp, 1, none⟩ = some (.int .i64 (start : Nat)) := by obtain ⟨_, _, _, h, _⟩ := HM4.out.read hSl; exact h
        have HRE := Lib.hid (show Calls Try.prog 65 #[.pointer (some ⟨wp, 0, none⟩), .int .i64 (start : Nat), .int .i64 ((i : Int) + 1), .int .i64 ((i : Int) + 1)] w4 _ from reach_all HM4.out HOK.out HWK4.out (fun j hj hzj => by have := hXl j hj; have := HZ4.out j hzj; omega) HI4.out.len start (i + 1) (i + 1) hst (by omega) (by omega) he hS (Nat.le_trans HI4.out.few hS) HI4.out.clo)
        have HFZ := Lib.hid (show W4.frm = 0 ∧ W4.to = 0 from ⟨hfr.trans hfz.1, hto.trans hfz.2⟩)
        have HAE := Lib.hid hae
        have HFO := Lib.hid hfo
        clear hfr hto hfz hae hfo hvf
        go_wp2_with fail
        refine HRE.out.mono ?_
        rintro e w5 ⟨rfl, Z5, W5, hwk5, hro, hz5, hk5, hm5⟩
        have HWK5 := Lib.hid hwk5
        have HM5 := Lib.hid hm5
        have HI5 := Lib.hid ((HI4.out.starts HOK.out hst (fun f hf => by have := HAE.out; omega) HFO.out hro).same (Q := fun g => g ≤ i + 1) (fun f => ⟨fun h => by have := HAE.out; omega, fun h => by have := HAE.out; omega⟩))
        have HN5 := Lib.hid (show W5.found = false → W5.frm = 0 ∧ W5.to = 0 from fun hf => by
          rcases hro.over with ⟨_, _, h, _⟩ | ⟨_, _, h1, h2⟩
          · rw [hf] at h; cases h
          · exact ⟨h1.trans HFZ.out.1, h2.trans HFZ.out.2⟩)
        have HZ5 := Lib.hid (show ∀ j, Z5 j → w.heap.size ≤ j from fun j hj => by
          rcases hz5 j hj with h | h
          · exact HZ4.out j h
          · exact Nat.le_trans HK4.out.size h)
        have HK5 := Lib.hid (HK4.out.trans hk5 (fun j hj => .inr (HZ4.out j hj)))
        clear hwk5 hro hz5 hk5 hm5 HRE q1
        go_wp2_with fail
        go_roundw
        case rel => exact ⟨i + 1, W5, Z5, st4, i + 1, Nat.le_refl _, hlt, by go_num, HWK5.out, HM5.out, HI5.out, fun _ => rfl, HN5.out, HS4.out, HZ5.out, HK5.out⟩
        case measure => simp [intOf]; omega
      · rw [hfo] at u4
        have HFO := Lib.hid hfo
        clear hfo
        go_wp2_with fail
        go_roundw
        case rel => exact ⟨i + 1, W4, Z4, st4, a, by omega, hlt, by go_num, HWK4.out, HM4.out, HI4.out, (fun h => by rw [HFO.out] at h; cases h), (fun h => by rw [HFO.out] at h; cases h), HS4.out, HZ4.out, HK4.out⟩
        case measure => simp [intOf]; omega
    · have hend : i = s.size ∨ W.held = [] := by
        by_cases hlt : i < s.size
        · right; apply List.eq_nil_of_length_eq_zero; omega
        · left; omega
      obtain ⟨l1, l2⟩ := find_end (n := s.size) HI.out HAF.out hai his hend
      have HLE := Lib.hid (show MLeft w X pp (start : Nat) S s.data.toList.length wr from ⟨st, by rw [HSL.out]; exact Nat.le_trans hstp (Nat.mul_le_mul his (Nat.le_refl _)), HM.out, HKP.out⟩)
      have HFIN := Lib.hid (show ∀ n, FindPost w X pp start S s.data.toList (.returned (.tuple #[.int .i64 (W.frm : Nat), .int .i64 (W.to : Nat), .bool W.found])) (wr.drewN n) from fun n => by
        refine ⟨_, _, _, rfl, ?_, st, HLE.out.elim (fun _ _ => by rw [HSL.out]; exact Nat.le_trans hstp (Nat.mul_le_mul his (Nat.le_refl _))), HM.out.keep fun _ _ _ => rfl, HKP.out.drewN n⟩
        cases hfo : W.found with
        | false => obtain ⟨z1, z2⟩ := HNF.out hfo; exact .inl ⟨rfl, by rw [z1]; rfl, by rw [z2]; rfl, l1 hfo⟩
        | true => obtain ⟨z1, z2, z3, z4, z5⟩ := l2 hfo; exact .inr ⟨rfl, W.frm, W.to, rfl, rfl, z1, z2, z3, z4, z5⟩)
      clear l1 l2 hstp HI HM HWK HZ HKP hend HAF HNF HLE
      by_cases hlt : i < s.size
      · have hh : ¬ (0 : Int) < (W.held.length : Int) := by omega
        have hlt' : (i : Int) < (s.size : Int) := by omega
        go_wp2_with fail
        go_quiet (fail)
        try go_wp2
        go_ret3
        exact HFIN.out _
      · obtain rfl : s.size = i := by omega
        have hlt' : ¬ (s.size : Int) < (s.size : Int) := by omega
        go_wp2_with fail
        go_quiet (fail)
        try go_wp2
        go_ret3
        exact HFIN.out _
end Go.Proofs.Ytponepcgokfiiaa
namespace Go.Proofs.Ytponepcgokfiiaa
open Go.RowKit Go.Maps

def lonR (s : List UInt8) (d : Nat) (t : Tr) (frm r : Int) : Prop :=
  ((frm < 0 ∨ (s.length : Int) < frm) ∧ r = -1) ∨ ∃ f : Nat, frm = (f : Nat) ∧ f ≤ s.length ∧ ((r = -1 ∧ ∀ k, k ≤ s.length → ¬ Mt s d t f k) ∨ ∃ u : Nat, r = (u : Nat) ∧ u ≤ s.length ∧ Mt s d t f u ∧ ∀ k, u < k → k ≤ s.length → ¬ Mt s d t f k)
def findR (s : List UInt8) (d : Nat) (t : Tr) (a b : Int) (ok : Bool) : Prop :=
  (ok = false ∧ a = 0 ∧ b = 0 ∧ ∀ f k, f ≤ s.length → k ≤ s.length → ¬ Mt s d t f k) ∨
  (ok = true ∧ ∃ f u : Nat, a = (f : Nat) ∧ b = (u : Nat) ∧ f ≤ s.length ∧ u ≤ s.length ∧ Mt s d t f u ∧ (∀ k, u < k → k ≤ s.length → ¬ Mt s d t f k) ∧ ∀ g, g < f → ∀ k, k ≤ s.length → ¬ Mt s d t g k)
theorem lonR_one {s : List UInt8} {d : Nat} {t : Tr} {frm r r' : Int} (h : lonR s d t frm r) (h' : lonR s d t frm r') : r = r' := by
  rcases h with ⟨ho, e⟩ | ⟨f, ef, hf, h⟩
  · rcases h' with ⟨_, e'⟩ | ⟨f', ef', hf', -⟩
    · rw [e, e']
    · rcases ho with ho | ho <;> omega
  · rcases h' with ⟨ho', -⟩ | ⟨f', ef', hf', h'⟩
    · clear h; rcases ho' with ho | ho <;> omega
    · obtain rfl : f = f' := by clear h h'; omega
      rcases h with ⟨e, hn⟩ | ⟨u, e, hu, hm, hl⟩
      · rcases h' with ⟨e', _⟩ | ⟨u', _, hu', hm', _⟩
        · rw [e, e']
        · exact absurd hm' (hn u' hu')
      · rcases h' with ⟨_, hn'⟩ | ⟨u', e', hu', hm', hl'⟩
        · exact absurd hm (hn' u hu)
        · rcases Nat.lt_trichotomy u u' with hlt | rfl | hlt
          · exact absurd hm' (hl u' hlt hu')
          · rw [e, e']
          · exact absurd hm (hl' u hlt hu)
theorem findR_one {s : List UInt8} {d : Nat} {t : Tr} {a b a' b' : Int} {ok ok' : Bool} (h : findR s d t a b ok) (h' : findR s d t a' b' ok') : a = a' ∧ b = b' ∧ ok = ok' := by
  rcases h with ⟨e1, e2, e3, hn⟩ | ⟨e1, f, u, e2, e3, hf, hu, hm, hl, hg⟩
  · rcases h' with ⟨e1', e2', e3', hn'⟩ | ⟨e1', f', u', e2', e3', hf', hu', hm', hl', hg'⟩
    · rw [e1, e2, e3, e1', e2', e3']; exact ⟨rfl, rfl, rfl⟩
    · exact absurd hm' (hn f' u' hf' hu')
  · rcases h' with ⟨e1', e2', e3', hn'⟩ | ⟨e1', f', u', e2', e3', hf', hu', hm', hl', hg'⟩
    · exact absurd hm (hn' f u hf hu)
    · rcases Nat.lt_trichotomy f f' with hlt | rfl | hlt
      · exact absurd hm (hg' f hlt u hu)
      · rcases Nat.lt_trichotomy u u' with hlt | rfl | hlt
        · exact absurd hm' (hl u' hlt hu')
        · rw [e1, e2, e3, e1', e2', e3']; exact ⟨rfl, rfl, rfl⟩
        · exact absurd hm (hl' u hlt hu)
      · exact absurd hm' (hg f' hlt u' hu')
theorem lon_of {d : Nat} {t : Tr} (hg : GoodT d t) {s : List UInt8} {frm r : Int} (h : LongR (machT d t).2 s (machT d t).1 frm r) : lonR s d t frm r := by
  rcases h with h | ⟨f, e, hf, h⟩
  · exact .inl h
  · refine .inr ⟨f, e, hf, ?_⟩
    have key := fun k => mach_run (k := k) hg hf
    rcases h with ⟨e, hn⟩ | ⟨u, e, hu, hm, hl⟩
    · exact .inl ⟨e, fun k hk hm => hn k hk ((key k).2 hm)⟩
    · exact .inr ⟨u, e, hu, (key u).1 hm, fun k h1 h2 hm' => hl k h1 h2 ((key k).2 hm')⟩
theorem find_of {d : Nat} {t : Tr} (hg : GoodT d t) {s : List UInt8} {a b : Int} {ok : Bool} (h : FindR (machT d t).2 s (machT d t).1 a b ok) : findR s d t a b ok := by
  rcases h with ⟨e1, e2, e3, hn⟩ | ⟨e1, f, u, e2, e3, hfu, hu, hm, hl, hgg⟩
  · exact .inl ⟨e1, e2, e3, fun f k hf hk hm => hn f k hk ((mach_run hg hf).2 hm)⟩
  · have hf : f ≤ s.length := Nat.le_trans hfu hu
    exact .inr ⟨e1, f, u, e2, e3, hf, hu, (mach_run hg hf).1 hm, fun k h1 h2 hm' => hl k h1 h2 ((mach_run hg hf).2 hm'), fun g hgf k hk hm' => hgg g hgf k hk ((mach_run hg (by omega)).2 hm')⟩
theorem mach_small {d : Nat} {t : Tr} (hg : GoodT d t) (hn : nodesT d t ≤ 1000) : (machT d t).2.length ≤ nodesT d t + 1 ∧ (machT d t).2.length ≤ 100000 ∧ edgesM (machT d t).2 ≤ 100000 := by
  have h1 := ahead_len d t 0 [⟨fun _ => false, false, []⟩]
  have h2 := ahead_edges d t 0 [⟨fun _ => false, false, []⟩] hg
  have h3 : edgesM [(⟨fun _ => false, false, []⟩ : St)] = 0 := rfl
  have h4 : [(⟨fun _ => false, false, []⟩ : St)].length = 1 := rfl
  rw [h3] at h2
  rw [h4] at h1
  have e : machT d t = aheadT d t 0 [⟨fun _ => false, false, []⟩] := rfl
  rw [e]
  omega
/-- A machine of a tree. -/
def PAt (w : World) (X : Nat → Prop) (pp d : Nat) (t : Tr) : Prop := ∃ steps : Nat, Mach w X pp ((machT d t).1 : Nat) (steps : Nat) (machT d t).2
/-- A call's trace. -/
def Left (w : World) (X : Nat → Prop) (pp d : Nat) (t : Tr) (n : Nat) (w' : World) : Prop := (∃ steps : Nat, steps ≤ n * (nodesT d t + 1) ∧ Mach w' X pp ((machT d t).1 : Nat) (steps : Nat) (machT d t).2) ∧ Kept (fun j => j = pp) w w'
theorem Left.of {w w' : World} {X : Nat → Prop} {pp d : Nat} {t : Tr} {n : Nat} (hg : GoodT d t) (hn : nodesT d t ≤ 1000) (h : MLeft w X pp ((machT d t).1 : Nat) (machT d t).2 n w') : Left w X pp d t n w' := by
  obtain ⟨st, h1, h2, h3⟩ := h
  exact ⟨⟨st, Nat.le_trans h1 (Nat.mul_le_mul (Nat.le_refl _) (mach_small hg hn).1), h2⟩, h3⟩
def LonPost (w : World) (X : Nat → Prop) (pp d : Nat) (t : Tr) (s : List UInt8) (frm : Int) (e : Ending) (w' : World) : Prop := ∃ r, e = .returned (.int .i64 r) ∧ lonR s d t frm r ∧ Left w X pp d t s.length w'
def FinPost (w : World) (X : Nat → Prop) (pp d : Nat) (t : Tr) (s : List UInt8) (e : Ending) (w' : World) : Prop := ∃ a b ok, e = .returned (.tuple #[.int .i64 a, .int .i64 b, .bool ok]) ∧ findR s d t a b ok ∧ Left w X pp d t s.length w'
theorem fin_any {w : World} {X : Nat → Prop} {pp d : Nat} {t : Tr} (h : PAt w X pp d t) (hg : GoodT d t) (hn : nodesT d t ≤ 1000) (s : ByteArray) (hs : s.size ≤ 100000000) : Calls Try.prog 37 #[.pointer (some ⟨pp, 0, none⟩), .string s] w (FinPost w X pp d t s.data.toList) := by
  obtain ⟨st, hm⟩ := h
  obtain ⟨_, h2, h3⟩ := mach_small hg hn
  obtain ⟨o1, o2⟩ := mach_ok d t
  refine (find_any hm o1 o2 s hs h3 h2).mono ?_
  rintro e w' ⟨a, b, ok, rfl, hr, hl⟩
  exact ⟨a, b, ok, rfl, find_of hg hr, Left.of hg hn hl⟩
/-- Off the table. -/
theorem lonR_tab {s : List UInt8} {d : Nat} {t : Tr} {f u : Nat} (hf : f ≤ s.length) (hu : u ≤ s.length) (h : tabT s d t f u = true) (hl : ∀ k, k < s.length + 1 → u < k → tabT s d t f k = false) : lonR s d t (f : Nat) (u : Nat) :=
  .inr ⟨f, rfl, hf, .inr ⟨u, rfl, hu, (tab_Mt d t f u hf hu).1 h, fun k h1 h2 hm => by
    have := (tab_Mt d t f k hf h2).2 hm
    rw [hl k (by omega) h1] at this; cases this⟩⟩
theorem findR_tab {s : List UInt8} {d : Nat} {t : Tr} {f u : Nat} (hf : f ≤ s.length) (hu : u ≤ s.length) (h : tabT s d t f u = true) (hl : ∀ k, k < s.length + 1 → u < k → tabT s d t f k = false) (hg : ∀ g, g < f → ∀ k, k < s.length + 1 → tabT s d t g k = false) : findR s d t (f : Nat) (u : Nat) true :=
  .inr ⟨rfl, f, u, rfl, rfl, hf, hu, (tab_Mt d t f u hf hu).1 h, (fun k h1 h2 hm => by
    have := (tab_Mt d t f k hf h2).2 hm
    rw [hl k (by omega) h1] at this; cases this), fun g hgf k hk hm => by
    have := (tab_Mt d t g k (by omega) hk).2 hm
    rw [hg g hgf k (by omega)] at this; cases this⟩
theorem findR_none {s : List UInt8} {d : Nat} {t : Tr} (hn : ∀ f, f < s.length + 1 → ∀ k, k < s.length + 1 → tabT s d t f k = false) : findR s d t 0 0 false :=
  .inl ⟨rfl, rfl, rfl, fun f k hf hk hm => by
    have := (tab_Mt d t f k hf hk).2 hm
    rw [hn f (by omega) k (by omega)] at this; cases this⟩
def setT1 (c : UInt8) : Tr := .mk 1 [(c, c)] []
def aliveT : Tr := .mk 2 [] [.mk 4 [] [setT1 97], .mk 3 [] [.mk 2 [] [setT1 98], .mk 2 [] [setT1 98, setT1 99]]]
theorem alive_good : GoodT 4 aliveT := by simp [GoodT, aliveT, setT1]
theorem alive_nodes : nodesT 4 aliveT ≤ 1000 ∧ highT 4 aliveT ≤ 300 := by decide
theorem alive_lon : lonR [97, 97, 98, 99, 100] 4 aliveT 0 4 := lonR_tab (f := 0) (u := 4) (by decide) (by decide) (by decide +kernel) (by decide +kernel)
theorem alive_fin : findR [120, 97, 98, 99] 4 aliveT 1 4 true := findR_tab (f := 1) (u := 4) (by decide) (by decide) (by decide +kernel) (by decide +kernel) (by decide +kernel)
theorem alive_not : findR [97, 99] 4 aliveT 0 0 false := findR_none (by decide +kernel)
end Go.Proofs.Ytponepcgokfiiaa
