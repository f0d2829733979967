/- The writing calls of strings.Builder, at this program: copyCheck and WriteByte on a builder that the call has made itself. WriteString of a builder in a block of its own; String of the builder in rex.writer. rex.signText, letterText. rex.rangesText. rex.setText, all cases. rex.writer.begin. -/
import Derived.Shelf.Strings.Builder1
import Derived.Shelf.Small.Strs
import Derived.Test.YtponepcgokfiiaaProg
import Derived.Test.YtponepcgokfiiaaPp
import Derived.Lib.UnsafeStr
import Derived.Test.YtponepcgokfiiaaXx
import Derived.Test.YtponepcgokfiiaaXl
import Derived.Test.YtponepcgokfiiaaShelf
import Derived.Lib.VarintMem
import Derived.Lib.BufferRead
import Derived.Deep.RegionHeld3
import Derived.Test.YtponepcgokfiiaaGr
import Derived.Test.YtponepcgokfiiaaGw
import Derived.Deep.RegionLaw
namespace Go.Proofs.Ytponepcgokfiiaa
open Go.RowKit Go.Shelf

theorem szB : (Try.prog.info? 106).map (·.size) = some 2 := by kernel_rfl
theorem liesB : liesAt Try.prog Try.prog.depth 106 (2 / Try.prog.cellsOf 106) 0 106 1 = true := by kernel_rfl
theorem infB : (Try.prog.info? 5).map (fun i => (i.zero, i.size, i.bytes)) = some (some (.int .u8 0), 1, 1) := by kernel_rfl

set_option maxHeartbeats 1000000 in
set_option maxRecDepth 100000 in
theorem cc_used (b : Nat) (w : World) (h0 : w.cell? ⟨b, 0, none⟩ = some (.pointer (some ⟨b, 0, none⟩))) :
    Calls Try.prog 102 #[.pointer (some ⟨b, 0, none⟩)] w fun e w' => e = .returned (.tuple #[]) ∧ w' = w := by
  obtain ⟨j, hj, hjs⟩ := Option.map_eq_some_iff.1 szB
  go_enter Try.func102, Try.ntmps102
  go_wp2
  rw [Lib.run_neq_ptr_same w _ Try.underlying104 hj]
  go_wp2
  go_end0
  exact ⟨rfl, rfl⟩

set_option maxHeartbeats 1000000 in
set_option maxRecDepth 100000 in
theorem cc_fresh (b : Nat) (w : World) (h0 : w.cell? ⟨b, 0, none⟩ = some (.pointer none)) (hsh : w.shape? b = some (106, 2)) (hfz : w.frozen? ⟨b, 0, none⟩ = false) :
    Calls Try.prog 102 #[.pointer (some ⟨b, 0, none⟩)] w fun e w' => e = .returned (.tuple #[]) ∧ w' = w.setCell ⟨b, 0, none⟩ (.pointer (some ⟨b, 0, none⟩)) := by
  obtain ⟨j, hj, hjs⟩ := Option.map_eq_some_iff.1 szB
  go_enter Try.func102, Try.ntmps102
  go_wp2
  rw [Lib.run_to_unsafe w ⟨b, 0, none⟩ Try.underlying104 Try.underlying194 hj (by rw [hjs]; decide) hsh (Nat.zero_lt_succ 1)]
  simp only [Result.andThen]
  rw [Oper.upon_value]
  go_wp2
  rw [run_callFunc_extern Try.func117 (by kernel_rfl) (by kernel_rfl) (by kernel_rfl) (e := Extern.AbiNoEscape.same) (by kernel_rfl)]
  rw [Lib.run_noEscape]
  simp only [Result.andThen]
  rw [Oper.upon_value]
  go_wp2
  rw [Lib.run_from_unsafe w ⟨b, 0, none⟩ Try.underlying194 Try.underlying104 hj hsh liesB]
  simp only [Result.andThen]
  rw [Oper.upon_value]
  go_wp2
  go_end0
  exact ⟨rfl, rfl⟩

theorem cc (B b : Nat) (bs : List Value) (w : World) (h : Lib.IsBuilder 106 5 B b bs w) :
    Calls Try.prog 102 #[.pointer (some ⟨b, 0, none⟩)] w fun e w' => e = .returned (.tuple #[]) ∧ Lib.BuilderAt 106 5 B b (.pointer (some ⟨b, 0, none⟩)) bs w' ∧ Below B w w' := by
  rcases h with h | h
  · refine (cc_fresh b w h.cell0 h.shape h.frozen0).mono ?_
    rintro e w' ⟨rfl, rfl⟩
    exact ⟨rfl, h.used _, (Below.refl B w).setCell (p := ⟨b, 0, none⟩) h.1 _⟩
  · refine (cc_used b w h.cell0).mono ?_
    rintro e w' ⟨rfl, rfl⟩
    exact ⟨rfl, h, Below.refl B _⟩

set_option maxHeartbeats 2000000 in
set_option maxRecDepth 100000 in
theorem writeByte (B b : Nat) (bs : List Value) (c : Int) (w : World) (h : Lib.IsBuilder 106 5 B b bs w) (hlen : bs.length + 1 ≤ 140737488355328) (hBw : B ≤ w.heap.size) :
    Calls Try.prog 80 #[.pointer (some ⟨b, 0, none⟩), .int .u8 c] w fun e w' => e = .returned .nilIface ∧ Lib.BuilderAt 106 5 B b (.pointer (some ⟨b, 0, none⟩)) (bs ++ [.int .u8 c]) w' ∧ Below B w w' := by
  obtain ⟨i0, hi, hz0, hz1, hz2⟩ := info_parts infB
  go_enter Try.func80, Try.ntmps80
  go_wp2_with (go_at_call 102; refine (cc B b bs _ h).mono ?_)
  rintro e w1 ⟨rfl, h1, hb1⟩
  obtain ⟨hB, v, hbk, hown, hne⟩ := h1
  have c0 : w1.cell? ⟨b, 0, none⟩ = some (.pointer (some ⟨b, 0, none⟩)) := by rw [Lib.cell_of_heap hbk]; rfl
  have c1 : w1.cell? ⟨b, 1, none⟩ = some v := by rw [Lib.cell_of_heap hbk]; rfl
  go_wp2_with (at_builtin; refine wpList_append_own _ rfl _ _ 38 rfl B 5 i0 (.int .u8 0) 1 1 Try.underlying38 hi hz0 hz1 hz2 rfl (by decide) _ _ _ rfl (hown.alloc _) ⟨w1.heap.size, 0, none⟩ 1 1 [.int .u8 c] rfl rfl ?c1 ?c2 ?c3 ?c4 ?c5 ?_)
  case c1 =>
    intro j u hj
    match j, hj with
    | 0, hj => simp at hj; subst hj; simp [Addr.add]
  case c2 => intro u hu; simp at hu; subst hu; rfl
  case c3 => unfold maxLen; omega
  case c4 => omega
  case c5 => have := hb1.size; simp; omega
  intro v' w2 hown' hgrow _
  have hlt : b < w1.heap.size := (Array.getElem?_eq_some_iff.1 hbk).1
  have hb2 : w2.heap[b]? = some (.cells #[.pointer (some ⟨b, 0, none⟩), v] 106 (0, 0)) := by
    rw [hgrow.block b (by simp; omega) (fun e => hne e.symm), Lib.alloc_old w1 _ b hlt]
    exact hbk
  have d0 : w2.cell? ⟨b, 0, none⟩ = some (.pointer (some ⟨b, 0, none⟩)) := by rw [Lib.cell_of_heap hb2]; rfl
  have d1 : w2.cell? ⟨b, 1, none⟩ = some v := by rw [Lib.cell_of_heap hb2]; rfl
  have f1 : w2.frozen? ⟨b, 1, none⟩ = false := Lib.frozen_of_heap hb2 1
  obtain ⟨g, cap, rfl⟩ : ∃ g cap, v' = .slice (some ⟨g, 0, none⟩) (bs.length + 1) cap := by
    rcases hown'.2 with ⟨_, h0⟩ | ⟨g, cap, cur, hv, _⟩
    · omega
    · exact ⟨g, cap, hv⟩
  go_wp2
  go_ret
  refine ⟨rfl, ?_, ?_⟩
  · exact Lib.BuilderAt.put (T := 106) (e := 5) hB hb2 (bs' := bs ++ [.int .u8 c]) (by simpa using hown') (by decide)
  · exact ((hb1.alloc (by have := hb1.size; omega) _).grown hgrow (by have := hb1.size; simp; omega) (fun k hk => (hown.lt k hk).1)).setCell (p := ⟨b, 1, none⟩) hB _

end Go.Proofs.Ytponepcgokfiiaa
namespace Go.Proofs.Ytponepcgokfiiaa
open Go.RowKit Go.Shelf

theorem liesW : liesAt Try.prog Try.prog.depth 109 (3 / Try.prog.cellsOf 109) 0 106 1 = true := by kernel_rfl
/-- The writer in block b: it has written bs (as cells), ov is its list of open nodes. -/
def WAt (B b : Nat) (p : Value) (bs : List Value) (ov : Value) (w : World) : Prop :=
  B ≤ b ∧ ∃ v, Blk w b 109 #[p, v, ov] ∧ w.ownsRow B 5 1 v bs.length bs
def IsW (B b : Nat) (bs : List Value) (ov : Value) (w : World) : Prop := WAt B b (.pointer none) bs ov w ∨ WAt B b (.pointer (some ⟨b, 0, none⟩)) bs ov w
/-- All blocks stay but the writer's own and its bytes'. -/
def KeepsO (w w' : World) : Prop := ∀ g T cs, T ≠ 5 → T ≠ 109 → Blk w g T cs → Blk w' g T cs
theorem KeepsO.trans {a b c : World} (h : KeepsO a b) (k : KeepsO b c) : KeepsO a c := fun g T cs h1 h2 x => k g T cs h1 h2 (h g T cs h1 h2 x)
theorem own_type {w : World} {B e T g n : Nat} {v : Value} {xs : List Value} {cs : Array Value} (h : w.ownsRow B e 1 v n xs) (hb : Blk w g T cs) (hT : T ≠ e) : v.ownBlock ≠ some g := by
  rcases h.2 with ⟨rfl, _⟩ | ⟨k, cap, cur, rfl, _, hg, _⟩
  · simp [Value.ownBlock]
  · intro h
    simp only [Value.ownBlock, Option.some.injEq] at h
    subst h
    unfold Blk at hb
    rw [hg] at hb
    simp only [Option.some.injEq, Obj.cells.injEq] at hb
    exact hT hb.2.1.symm
theorem own_setW {w : World} {B e b n i : Nat} {v u : Value} {xs : List Value} (h : w.ownsRow B e 1 v n xs) (hne : v.ownBlock ≠ some b) : (w.setCell ⟨b, i, none⟩ u).ownsRow B e 1 v n xs :=
  h.kept (row := some b) ⟨rfl, rfl, rfl, by simp [World.setCell], fun k _ hk => Below.heap_setCell _ _ _ _ (fun e => hk (by simp [e]))⟩ (Or.inr hne)

set_option maxHeartbeats 1000000 in
set_option maxRecDepth 100000 in
theorem wcc_fresh (b : Nat) (w : World) (h0 : w.cell? ⟨b, 0, none⟩ = some (.pointer none)) (hsh : w.shape? b = some (109, 3)) (hfz : w.frozen? ⟨b, 0, none⟩ = false) :
    Calls Try.prog 102 #[.pointer (some ⟨b, 0, none⟩)] w fun e w' => e = .returned (.tuple #[]) ∧ w' = w.setCell ⟨b, 0, none⟩ (.pointer (some ⟨b, 0, none⟩)) := by
  obtain ⟨j, hj, hjs⟩ := Option.map_eq_some_iff.1 szB
  go_enter Try.func102, Try.ntmps102
  go_wp2
  rw [Lib.run_to_unsafe w ⟨b, 0, none⟩ Try.underlying104 Try.underlying194 hj (by rw [hjs]; decide) hsh (Nat.zero_lt_succ 2)]
  simp only [Result.andThen]
  rw [Oper.upon_value]
  go_wp2
  rw [run_callFunc_extern Try.func117 (by kernel_rfl) (by kernel_rfl) (by kernel_rfl) (e := Extern.AbiNoEscape.same) (by kernel_rfl)]
  rw [Lib.run_noEscape]
  simp only [Result.andThen]
  rw [Oper.upon_value]
  go_wp2
  rw [Lib.run_from_unsafe w ⟨b, 0, none⟩ Try.underlying194 Try.underlying104 hj hsh liesW]
  simp only [Result.andThen]
  rw [Oper.upon_value]
  go_wp2
  go_end0
  exact ⟨rfl, rfl⟩
theorem keepsO_set {w : World} {b i : Nat} {u : Value} {cs : Array Value} (hb : Blk w b 109 cs) : KeepsO w (w.setCell ⟨b, i, none⟩ u) := fun g _ _ _ hT hg => hg.far (fun e => by
  have e' : g = b := e
  subst e'
  unfold Blk at hb hg
  rw [hb] at hg
  simp only [Option.some.injEq, Obj.cells.injEq] at hg
  exact hT hg.2.1.symm) u
theorem keepsO_grown {w w' : World} {B n : Nat} {v : Value} {xs : List Value} (h : w.ownsRow B 5 1 v n xs) (hg : w.grownBy w' v.ownBlock) : KeepsO w w' := fun _ _ _ hT _ hb => hb.grown hg (fun e => own_type h hb hT e.symm)
theorem keepsO_alloc (w : World) (o : Obj) : KeepsO w (w.alloc o) := fun _ _ _ _ _ hb => hb.alloc o
theorem wcc (B b : Nat) (bs : List Value) (ov : Value) (w : World) (h : IsW B b bs ov w) :
    Calls Try.prog 102 #[.pointer (some ⟨b, 0, none⟩)] w fun e w' => e = .returned (.tuple #[]) ∧ WAt B b (.pointer (some ⟨b, 0, none⟩)) bs ov w' ∧ Below B w w' ∧ KeepsO w w' := by
  rcases h with ⟨hB, v, hb, hown⟩ | h
  · refine (wcc_fresh b w (hb.cell 0) (by unfold Blk at hb; simp [World.shape?, hb]) (hb.frozen 0)).mono ?_
    rintro e w' ⟨rfl, rfl⟩
    exact ⟨rfl, ⟨hB, v, hb.set_ 0 _, own_setW hown (own_type hown hb (by decide))⟩, (Below.refl B w).setCell (p := ⟨b, 0, none⟩) hB _, keepsO_set hb⟩
  · obtain ⟨hB, v, hb, hown⟩ := h
    refine (cc_used b w (hb.cell 0)).mono ?_
    rintro e w' ⟨rfl, rfl⟩
    exact ⟨rfl, ⟨hB, v, hb, hown⟩, Below.refl B _, fun _ _ _ _ _ x => x⟩
set_option maxHeartbeats 2000000 in
set_option maxRecDepth 100000 in
theorem wByte (B b : Nat) (bs : List Value) (ov : Value) (c : Int) (w : World) (h : IsW B b bs ov w) (hlen : bs.length + 1 ≤ 140737488355328) (hBw : B ≤ w.heap.size) :
    Calls Try.prog 80 #[.pointer (some ⟨b, 0, none⟩), .int .u8 c] w fun e w' => e = .returned .nilIface ∧ IsW B b (bs ++ [.int .u8 c]) ov w' ∧ Below B w w' ∧ KeepsO w w' := by
  obtain ⟨i0, hi, hz0, hz1, hz2⟩ := info_parts infB
  go_enter Try.func80, Try.ntmps80
  go_wp2_with (go_at_call 102; refine (wcc B b bs ov _ h).mono ?_)
  rintro e w1 ⟨rfl, h1, hb1, hk1⟩
  obtain ⟨hB, v, hbk, hown⟩ := h1
  have hne := own_type hown hbk (by decide)
  obtain ⟨c0, c1, c2, _, _, _⟩ := blk3 hbk
  go_wp2_with (at_builtin; refine wpList_append_own _ rfl _ _ 38 rfl B 5 i0 (.int .u8 0) 1 1 Try.underlying38 hi hz0 hz1 hz2 rfl (by decide) _ _ _ rfl (hown.alloc _) ⟨w1.heap.size, 0, none⟩ 1 1 [.int .u8 c] rfl rfl ?c1 ?c2 ?c3 ?c4 ?c5 ?_)
  case c1 =>
    intro j u hj
    match j, hj with
    | 0, hj => simp at hj; subst hj; simp [Addr.add]
  case c2 => intro u hu; simp at hu; subst hu; rfl
  case c3 => unfold maxLen; omega
  case c4 => omega
  case c5 => have := hb1.size; simp; omega
  intro v' w2 hown' hgrow _
  have hb2 : Blk w2 b 109 #[.pointer (some ⟨b, 0, none⟩), v, ov] := (hbk.alloc _).grown hgrow (fun e => hne e.symm)
  obtain ⟨d0, d1, d2, f0, f1, f2⟩ := blk3 hb2
  obtain ⟨g, cap, rfl⟩ : ∃ g cap, v' = .slice (some ⟨g, 0, none⟩) (bs.length + 1) cap := by
    rcases hown'.2 with ⟨_, h0⟩ | ⟨g, cap, cur, hv, _⟩
    · omega
    · exact ⟨g, cap, hv⟩
  go_wp2
  go_ret
  refine ⟨rfl, Or.inr ⟨hB, _, hb2.set_ 1 _, ?_⟩, ?_, ?_⟩
  · exact own_setW (by simpa using hown') (own_type hown' hb2 (by decide))
  · exact ((hb1.alloc (by have := hb1.size; omega) _).grown hgrow (by have := hb1.size; simp; omega) (fun k hk => (hown.lt k hk).1)).setCell (p := ⟨b, 1, none⟩) hB _
  · exact ((hk1.trans (keepsO_alloc w1 _)).trans (keepsO_grown (hown.alloc _) hgrow)).trans (keepsO_set hb2)
set_option maxHeartbeats 2000000 in
set_option maxRecDepth 100000 in
theorem wString (B b : Nat) (bs : List Value) (ov : Value) (s : ByteArray) (w : World) (h : IsW B b bs ov w) (hlen : bs.length + s.size ≤ 140737488355328) (hBw : B ≤ w.heap.size) :
    Calls Try.prog 78 #[.pointer (some ⟨b, 0, none⟩), .string s] w fun e w' => e = .returned (.tuple #[.int .i64 s.size, .nilIface]) ∧ IsW B b (bs ++ Lib.strCells s) ov w' ∧ Below B w w' ∧ KeepsO w w' := by
  obtain ⟨i0, hi, hz0, hz1, hz2⟩ := info_parts infB
  go_enter Try.func78, Try.ntmps78
  go_wp2_with (go_at_call 102; refine (wcc B b bs ov _ h).mono ?_)
  rintro e w1 ⟨rfl, h1, hb1, hk1⟩
  obtain ⟨hB, v, hbk, hown⟩ := h1
  have hne := own_type hown hbk (by decide)
  obtain ⟨c0, c1, c2, _, _, _⟩ := blk3 hbk
  go_wp2_with (at_builtin; refine Lib.wpList_append_own_string _ rfl _ _ 38 9 rfl B 5 i0 Try.underlying38 Try.underlying9 hi hz0 hz1 hz2 _ _ _ rfl hown s rfl ?c3 ?c4 ?c5 ?_)
  case c3 => unfold maxLen; omega
  case c4 => omega
  case c5 => have := hb1.size; omega
  intro v' w2 hown' hgrow _
  have hb2 : Blk w2 b 109 #[.pointer (some ⟨b, 0, none⟩), v, ov] := hbk.grown hgrow (fun e => hne e.symm)
  obtain ⟨d0, d1, d2, f0, f1, f2⟩ := blk3 hb2
  obtain ⟨ao, n', cap, rfl⟩ : ∃ ao n' cap, v' = .slice ao n' cap := by
    rcases hown'.2 with ⟨hv, _⟩ | ⟨g, cap, cur, hv, _⟩
    · exact ⟨_, _, _, hv⟩
    · exact ⟨_, _, _, hv⟩
  go_wp2
  go_ret2
  refine ⟨rfl, Or.inr ⟨hB, _, hb2.set_ 1 _, ?_⟩, ?_, ?_⟩
  · exact own_setW (by simpa [Lib.strCells_length] using hown') (own_type hown' hb2 (by decide))
  · exact (hb1.grown hgrow (by have := hb1.size; omega) (fun k hk => (hown.lt k hk).1)).setCell (p := ⟨b, 1, none⟩) hB _
  · exact (hk1.trans (keepsO_grown hown hgrow)).trans (keepsO_set hb2)

/-- Blocks of ranges stay. -/
def KeepsR (w w' : World) : Prop := ∀ g cs, Blk w g 165 cs → Blk w' g 165 cs
theorem KeepsR.trans {a b c : World} (h : KeepsR a b) (k : KeepsR b c) : KeepsR a c := fun g cs x => k g cs (h g cs x)
theorem keepsR_set {w : World} {b i : Nat} {u : Value} {cs : Array Value} (hb : Blk w b 106 cs) : KeepsR w (w.setCell ⟨b, i, none⟩ u) := fun g _ hg => hg.far (fun e => by
  have e' : g = b := e
  subst e'
  unfold Blk at hb hg
  rw [hb] at hg
  simp at hg) u
theorem keepsR_grown {w w' : World} {B n : Nat} {v : Value} {xs : List Value} (h : w.ownsRow B 5 1 v n xs) (hg : w.grownBy w' v.ownBlock) : KeepsR w w' := fun _ _ hb => hb.grown hg (fun e => own_type h hb (by decide) e.symm)
theorem keepsR_alloc (w : World) (o : Obj) : KeepsR w (w.alloc o) := fun _ _ hb => hb.alloc o
theorem ccR (B b : Nat) (bs : List Value) (w : World) (h : Lib.IsBuilder 106 5 B b bs w) :
    Calls Try.prog 102 #[.pointer (some ⟨b, 0, none⟩)] w fun e w' => e = .returned (.tuple #[]) ∧ Lib.BuilderAt 106 5 B b (.pointer (some ⟨b, 0, none⟩)) bs w' ∧ Below B w w' ∧ KeepsR w w' := by
  rcases h with h | h
  · have hb : Blk w b 106 _ := h.2.choose_spec.1
    refine (cc_fresh b w h.cell0 h.shape h.frozen0).mono ?_
    rintro e w' ⟨rfl, rfl⟩
    exact ⟨rfl, h.used _, (Below.refl B w).setCell (p := ⟨b, 0, none⟩) h.1 _, keepsR_set hb⟩
  · refine (cc_used b w h.cell0).mono ?_
    rintro e w' ⟨rfl, rfl⟩
    exact ⟨rfl, h, Below.refl B _, fun _ _ x => x⟩
set_option maxHeartbeats 2000000 in
set_option maxRecDepth 100000 in
theorem bString (B b : Nat) (bs : List Value) (s : ByteArray) (w : World) (h : Lib.IsBuilder 106 5 B b bs w) (hlen : bs.length + s.size ≤ 140737488355328) (hBw : B ≤ w.heap.size) :
    Calls Try.prog 78 #[.pointer (some ⟨b, 0, none⟩), .string s] w fun e w' => e = .returned (.tuple #[.int .i64 s.size, .nilIface]) ∧ Lib.BuilderAt 106 5 B b (.pointer (some ⟨b, 0, none⟩)) (bs ++ Lib.strCells s) w' ∧ Below B w w' ∧ KeepsR w w' := by
  obtain ⟨i0, hi, hz0, hz1, hz2⟩ := info_parts infB
  go_enter Try.func78, Try.ntmps78
  go_wp2_with (go_at_call 102; refine (ccR B b bs _ h).mono ?_)
  rintro e w1 ⟨rfl, h1, hb1, hk1⟩
  obtain ⟨hB, v, hbk, hown, hne⟩ := h1
  have c0 : w1.cell? ⟨b, 0, none⟩ = some (.pointer (some ⟨b, 0, none⟩)) := by rw [Lib.cell_of_heap hbk]; rfl
  have c1 : w1.cell? ⟨b, 1, none⟩ = some v := by rw [Lib.cell_of_heap hbk]; rfl
  go_wp2_with (at_builtin; refine Lib.wpList_append_own_string _ rfl _ _ 38 9 rfl B 5 i0 Try.underlying38 Try.underlying9 hi hz0 hz1 hz2 _ _ _ rfl hown s rfl ?c3 ?c4 ?c5 ?_)
  case c3 => unfold maxLen; omega
  case c4 => omega
  case c5 => have := hb1.size; omega
  intro v' w2 hown' hgrow _
  have hlt : b < w1.heap.size := (Array.getElem?_eq_some_iff.1 hbk).1
  have hb2 : w2.heap[b]? = some (.cells #[.pointer (some ⟨b, 0, none⟩), v] 106 (0, 0)) := by
    rw [hgrow.block b hlt (fun e => hne e.symm)]
    exact hbk
  have d0 : w2.cell? ⟨b, 0, none⟩ = some (.pointer (some ⟨b, 0, none⟩)) := by rw [Lib.cell_of_heap hb2]; rfl
  have d1 : w2.cell? ⟨b, 1, none⟩ = some v := by rw [Lib.cell_of_heap hb2]; rfl
  have f1 : w2.frozen? ⟨b, 1, none⟩ = false := Lib.frozen_of_heap hb2 1
  obtain ⟨ao, n', cap, rfl⟩ : ∃ ao n' cap, v' = .slice ao n' cap := by
    rcases hown'.2 with ⟨hv, _⟩ | ⟨g, cap, cur, hv, _⟩
    · exact ⟨_, _, _, hv⟩
    · exact ⟨_, _, _, hv⟩
  go_wp2
  go_ret2
  refine ⟨rfl, ?_, ?_, ?_⟩
  · exact Lib.BuilderAt.put (T := 106) (e := 5) hB hb2 (bs' := bs ++ Lib.strCells s) (by simpa [Lib.strCells_length] using hown') (by decide)
  · exact (hb1.grown hgrow (by have := hb1.size; omega) (fun k hk => (hown.lt k hk).1)).setCell (p := ⟨b, 1, none⟩) hB _
  · exact (hk1.trans (keepsR_grown hown hgrow)).trans (keepsR_set hb2)
set_option maxHeartbeats 2000000 in
set_option maxRecDepth 100000 in
theorem bByte (B b : Nat) (bs : List Value) (c : Int) (w : World) (h : Lib.IsBuilder 106 5 B b bs w) (hlen : bs.length + 1 ≤ 140737488355328) (hBw : B ≤ w.heap.size) :
    Calls Try.prog 80 #[.pointer (some ⟨b, 0, none⟩), .int .u8 c] w fun e w' => e = .returned .nilIface ∧ Lib.BuilderAt 106 5 B b (.pointer (some ⟨b, 0, none⟩)) (bs ++ [.int .u8 c]) w' ∧ Below B w w' ∧ KeepsR w w' := by
  obtain ⟨i0, hi, hz0, hz1, hz2⟩ := info_parts infB
  go_enter Try.func80, Try.ntmps80
  go_wp2_with (go_at_call 102; refine (ccR B b bs _ h).mono ?_)
  rintro e w1 ⟨rfl, h1, hb1, hk1⟩
  obtain ⟨hB, v, hbk, hown, hne⟩ := h1
  have c0 : w1.cell? ⟨b, 0, none⟩ = some (.pointer (some ⟨b, 0, none⟩)) := by rw [Lib.cell_of_heap hbk]; rfl
  have c1 : w1.cell? ⟨b, 1, none⟩ = some v := by rw [Lib.cell_of_heap hbk]; rfl
  go_wp2_with (at_builtin; refine wpList_append_own _ rfl _ _ 38 rfl B 5 i0 (.int .u8 0) 1 1 Try.underlying38 hi hz0 hz1 hz2 rfl (by decide) _ _ _ rfl (hown.alloc _) ⟨w1.heap.size, 0, none⟩ 1 1 [.int .u8 c] rfl rfl ?c1 ?c2 ?c3 ?c4 ?c5 ?_)
  case c1 =>
    intro j u hj
    match j, hj with
    | 0, hj => simp at hj; subst hj; simp [Addr.add]
  case c2 => intro u hu; simp at hu; subst hu; rfl
  case c3 => unfold maxLen; omega
  case c4 => omega
  case c5 => have := hb1.size; simp; omega
  intro v' w2 hown' hgrow _
  have hlt : b < w1.heap.size := (Array.getElem?_eq_some_iff.1 hbk).1
  have hb2 : w2.heap[b]? = some (.cells #[.pointer (some ⟨b, 0, none⟩), v] 106 (0, 0)) := by
    rw [hgrow.block b (by simp; omega) (fun e => hne e.symm), Lib.alloc_old w1 _ b hlt]
    exact hbk
  have d0 : w2.cell? ⟨b, 0, none⟩ = some (.pointer (some ⟨b, 0, none⟩)) := by rw [Lib.cell_of_heap hb2]; rfl
  have d1 : w2.cell? ⟨b, 1, none⟩ = some v := by rw [Lib.cell_of_heap hb2]; rfl
  have f1 : w2.frozen? ⟨b, 1, none⟩ = false := Lib.frozen_of_heap hb2 1
  obtain ⟨g, cap, rfl⟩ : ∃ g cap, v' = .slice (some ⟨g, 0, none⟩) (bs.length + 1) cap := by
    rcases hown'.2 with ⟨_, h0⟩ | ⟨g, cap, cur, hv, _⟩
    · omega
    · exact ⟨g, cap, hv⟩
  go_wp2
  go_ret
  refine ⟨rfl, ?_, ?_, ?_⟩
  · exact Lib.BuilderAt.put (T := 106) (e := 5) hB hb2 (bs' := bs ++ [.int .u8 c]) (by simpa using hown') (by decide)
  · exact ((hb1.alloc (by have := hb1.size; omega) _).grown hgrow (by have := hb1.size; simp; omega) (fun k hk => (hown.lt k hk).1)).setCell (p := ⟨b, 1, none⟩) hB _
  · exact ((hk1.trans (keepsR_alloc w1 _)).trans (keepsR_grown (hown.alloc _) hgrow)).trans (keepsR_set hb2)
set_option maxHeartbeats 1000000 in
set_option maxRecDepth 100000 in
theorem wtext_nil (B b : Nat) (p ov : Value) (w : World) (hbk : Blk w b 109 #[p, .slice none 0 0, ov]) :
    Calls Try.prog 50 #[.pointer (some ⟨b, 0, none⟩)] w fun e w' => e = .returned (.string ⟨#[]⟩) ∧ Below B w w' := by
  have hUS := fun W q => Lib.run_unsafeString_none (P := Try.prog) W 161 3 9 q
  have c1 : w.drew.cell? ⟨b, 1, none⟩ = some (.slice none 0 0) := (hbk.drew).cell 1
  have hSD : (Builtin.unsafeSliceData_ #[38] 161 #[.slice none 0 0]).run Try.prog w.drew = .ok (.pointer none) w.drew := rfl
  have mixed : Try.prog.follows .mixedOrders = true := by kernel_rfl
  go_enter Try.func50, Try.ntmps50
  go_wp2
  go_region_o
  all_goals (go_wp2; go_ret; exact ⟨rfl, Below.drew (Below.refl B w)⟩)
set_option maxHeartbeats 2000000 in
set_option maxRecDepth 100000 in
theorem wtext_noroom (B b g : Nat) (p ov : Value) (cur : Array Value) (w : World) (hBw : B ≤ w.heap.size) (hbk : Blk w b 109 #[p, .slice (some ⟨g, 0, none⟩) 0 0, ov]) (hg : Blk w g 5 cur) :
    Calls Try.prog 50 #[.pointer (some ⟨b, 0, none⟩)] w fun e w' => e = .returned (.string ⟨#[]⟩) ∧ Below B w w' := by
  have hUS := fun W q => Lib.run_unsafeString_none (P := Try.prog) W 161 3 9 q
  have hlt : b < w.heap.size := hbk.lt
  have c1 : w.drew.cell? ⟨b, 1, none⟩ = some (.slice (some ⟨g, 0, none⟩) 0 0) := (hbk.drew).cell 1
  have hSD : (Builtin.unsafeSliceData_ #[38] 161 #[.slice (some ⟨g, 0, none⟩) 0 0]).run Try.prog w.drew = .ok (.pointer (some ⟨w.drew.heap.size, 0, none⟩)) (w.drew.alloc (.view ⟨g, 0, none⟩ 5)) :=
    Lib.run_unsafeSliceData_zero w.drew _ _ 5 Try.underlying161 ⟨g, 0, none⟩ 0 (5, cur.size) (by have hg' : w.drew.heap[g]? = some (.cells cur 5 (0, 0)) := hg; simp [World.shape?, hg'])
  have c2 : (w.drew.alloc (.view ⟨g, 0, none⟩ 5)).cell? ⟨b, 1, none⟩ = some (.slice (some ⟨g, 0, none⟩) 0 0) := ((hbk.drew).alloc _).cell 1
  have c3 : (w.alloc (.view ⟨g, 0, none⟩ 5)).drew.cell? ⟨b, 1, none⟩ = some (.slice (some ⟨g, 0, none⟩) 0 0) := c2
  have c0 : w.cell? ⟨b, 1, none⟩ = some (.slice (some ⟨g, 0, none⟩) 0 0) := c1
  have mixed : Try.prog.follows .mixedOrders = true := by kernel_rfl
  go_enter Try.func50, Try.ntmps50
  go_wp2
  go_region_o
  all_goals (go_wp2; go_ret; exact ⟨rfl, (Below.drew (Below.refl B w)).alloc hBw _⟩)
set_option maxHeartbeats 2000000 in
set_option maxRecDepth 100000 in
theorem wtext_room (B b g cap : Nat) (p ov : Value) (w : World) (hc0 : cap ≠ 0) (hbk : Blk w b 109 #[p, .slice (some ⟨g, 0, none⟩) 0 cap, ov]) :
    Calls Try.prog 50 #[.pointer (some ⟨b, 0, none⟩)] w fun e w' => e = .returned (.string ⟨#[]⟩) ∧ Below B w w' := by
  have hUS := fun W q => Lib.run_unsafeString_none (P := Try.prog) W 161 3 9 q
  have c1 : w.drew.cell? ⟨b, 1, none⟩ = some (.slice (some ⟨g, 0, none⟩) 0 cap) := (hbk.drew).cell 1
  have hSD : (Builtin.unsafeSliceData_ #[38] 161 #[.slice (some ⟨g, 0, none⟩) 0 cap]).run Try.prog w.drew = .ok (.pointer (some ⟨g, 0, none⟩)) w.drew :=
    Lib.run_unsafeSliceData_row _ _ _ _ _ _ hc0
  clear hc0
  have mixed : Try.prog.follows .mixedOrders = true := by kernel_rfl
  go_enter Try.func50, Try.ntmps50
  go_wp2
  go_region_o
  all_goals (go_wp2; go_ret; exact ⟨rfl, Below.drew (Below.refl B w)⟩)
theorem cellsB : Try.prog.cellsOf 5 = 1 := by kernel_rfl
set_option maxHeartbeats 2000000 in
set_option maxRecDepth 100000 in
theorem wtext_some (B b : Nat) (p ov : Value) (l : List UInt8) (v : Value) (w : World) (h0 : l ≠ []) (hbk : Blk w b 109 #[p, v, ov]) (hown : w.ownsRow B 5 1 v l.length (Lib.byteCells l)) :
    Calls Try.prog 50 #[.pointer (some ⟨b, 0, none⟩)] w fun e w' => e = .returned (.string ⟨l.toArray⟩) ∧ Below B w w' := by
  have hl0 : l.length ≠ 0 := by simpa using h0
  obtain ⟨g, cap, cur, rfl, hbg, hg, hnc, hcm, hcs, htake⟩ : ∃ g cap cur, v = .slice (some ⟨g, 0, none⟩) l.length cap ∧ B ≤ g ∧ w.heap[g]? = some (.cells cur 5 (0, 0)) ∧ l.length ≤ cap ∧ cap ≤ maxLen ∧ cur.size = cap * 1 ∧ cur.toList.take (l.length * 1) = Lib.byteCells l := by
    rcases hown.2 with ⟨_, hz⟩ | ⟨g, cap, cur, hv, r⟩
    · exact absurd hz hl0
    · exact ⟨g, cap, cur, hv, r⟩
  have c1 : w.drew.cell? ⟨b, 1, none⟩ = some (.slice (some ⟨g, 0, none⟩) l.length cap) := (hbk.drew).cell 1
  have hSD : (Builtin.unsafeSliceData_ #[38] 161 #[.slice (some ⟨g, 0, none⟩) l.length cap]).run Try.prog w.drew = .ok (.pointer (some ⟨g, 0, none⟩)) w.drew :=
    Lib.run_unsafeSliceData_row _ _ _ _ _ _ (by omega)
  have hUS : (Builtin.unsafeString_ #[161, 3] 9 #[.pointer (some ⟨g, 0, none⟩), .int .i64 l.length]).run Try.prog w.drew = .ok (.string ⟨l.toArray⟩) (w.drew.freeze ⟨g, 0, none⟩ l.length) := by
    refine Lib.run_unsafeString_row w.drew 161 3 9 5 Try.underlying161 cellsB g cur.size (by have hg' : w.drew.heap[g]? = some (.cells cur 5 (0, 0)) := hg; simp [World.shape?, hg']) l h0 (by omega) (by unfold maxLen at hcm; omega) ?_
    intro j x hx
    have := hown.cells (g := g) rfl j (.int .u8 x.toNat) (by simp [Lib.byteCells, hx])
    exact this
  have mixed : Try.prog.follows .mixedOrders = true := by kernel_rfl
  go_enter Try.func50, Try.ntmps50
  go_wp2
  go_region_o
  all_goals (go_wp2; go_ret; exact ⟨rfl, Lib.below_freeze (Below.drew (Below.refl B w)) (p := ⟨g, 0, none⟩) hbg _⟩)
theorem wtext (B b : Nat) (l : List UInt8) (ov : Value) (w : World) (h : IsW B b (Lib.byteCells l) ov w) (hBw : B ≤ w.heap.size) :
    Calls Try.prog 50 #[.pointer (some ⟨b, 0, none⟩)] w fun e w' => e = .returned (.string ⟨l.toArray⟩) ∧ Below B w w' := by
  obtain ⟨p, hB, v, hbk, hown⟩ : ∃ p, WAt B b p (Lib.byteCells l) ov w := by
    rcases h with h | h
    · exact ⟨_, h⟩
    · exact ⟨_, h⟩
  rw [Lib.byteCells_length] at hown
  cases l with
  | nil =>
    rcases hown.2 with ⟨rfl, _⟩ | ⟨g, cap, cur, rfl, hbg, hg, _, _, _, _⟩
    · exact wtext_nil B b p ov w hbk
    · by_cases hc0 : cap = 0
      · subst hc0
        exact wtext_noroom B b g p ov cur w hBw hbk hg
      · exact wtext_room B b g cap p ov w hc0 hbk
  | cons x r => exact wtext_some B b p ov (x :: r) v w (by simp) hbk hown
end Go.Proofs.Ytponepcgokfiiaa
namespace Go.Proofs.Ytponepcgokfiiaa
open Go.RowKit

theorem signText_any (k : Int) (w : World) (hk : k = 4 ∨ k = 5 ∨ k = 6) : Calls Try.prog 81 #[.int .i64 k] w fun e w' => e = .returned (.string ⟨(signT k).toArray⟩) ∧ w = w' := by
  rcases hk with rfl | rfl | rfl
  · go_enter Try.func81, Try.ntmps81
    go_wp2
    go_ret
    exact ⟨rfl, rfl⟩
  · go_enter Try.func81, Try.ntmps81
    go_wp2
    go_ret
    exact ⟨rfl, rfl⟩
  · go_enter Try.func81, Try.ntmps81
    go_wp2
    go_ret
    exact ⟨rfl, rfl⟩
theorem xbyte_ne {b c : UInt8} (h : b ≠ c) : (((b.toNat : Nat) : Int) == ((c.toNat : Nat) : Int)) = false := by
  have : b.toNat ≠ c.toNat := fun e => h (UInt8.toNat_inj.1 e)
  simp; omega
theorem xconv1 (w : World) (c : UInt8) : (convert 38 9 (.slice (some ⟨w.heap.size, 0, none⟩) 1 1)).run Try.prog (w.alloc (.cells #[.int .u8 (c.toNat : Nat)] 5)) = .ok (.string ⟨#[c]⟩) (w.alloc (.cells #[.int .u8 (c.toNat : Nat)] 5)) := by
  refine run_convert_bytes_back _ 38 9 5 ⟨w.heap.size, 0, none⟩ 1 [c] Try.underlying38 Try.underlying5 Try.underlying9 (Lib.bytes_of_row (heap_alloc_new w _) ?_)
  simp [Lib.byteCells]
theorem xconv2 (w : World) (c : UInt8) : (convert 38 9 (.slice (some ⟨w.heap.size, 0, none⟩) 2 2)).run Try.prog (w.alloc (.cells #[.int .u8 92, .int .u8 (c.toNat : Nat)] 5)) = .ok (.string ⟨#[92, c]⟩) (w.alloc (.cells #[.int .u8 92, .int .u8 (c.toNat : Nat)] 5)) := by
  refine run_convert_bytes_back _ 38 9 5 ⟨w.heap.size, 0, none⟩ 2 [92, c] Try.underlying38 Try.underlying5 Try.underlying9 (Lib.bytes_of_row (heap_alloc_new w _) ?_)
  simp [Lib.byteCells]
theorem sgs_fin : ∀ n : Fin 256, decide (0 ≤ Lib.indexByte sgs (UInt8.ofNat n.val)) = sgs.contains (UInt8.ofNat n.val) := by decide +kernel
theorem csgs_fin : ∀ n : Fin 256, decide (0 ≤ Lib.indexByte csgs (UInt8.ofNat n.val)) = csgs.contains (UInt8.ofNat n.val) := by decide +kernel
theorem sgs_ix (c : UInt8) : decide (0 ≤ Lib.indexByte sgs c) = sgs.contains c := by
  have := sgs_fin ⟨c.toNat, UInt8.toNat_lt c⟩
  simpa using this
theorem csgs_ix (c : UInt8) : decide (0 ≤ Lib.indexByte csgs c) = csgs.contains c := by
  have := csgs_fin ⟨c.toNat, UInt8.toNat_lt c⟩
  simpa using this
theorem xbyte_back (c : UInt8) : ((c.toNat : Nat) : Int).toNat.toUInt8 = c := by simp
set_option maxHeartbeats 1000000 in
set_option maxRecDepth 100000 in
theorem letterText_any (sg : List UInt8) (hsg : ∀ c, decide (0 ≤ Lib.indexByte sg c) = sg.contains c) (b : UInt8) (w : World) :
    Calls Try.prog 105 #[.int .u8 b.toNat, .string ⟨sg.toArray⟩] w fun e w' => e = .returned (.string ⟨(letterT sg b).toArray⟩) ∧ Below w.heap.size w w' := by
  unfold letterT
  by_cases h10 : b = 10
  · subst h10
    go_enter Try.func105, Try.ntmps105
    go_wp2
    go_ret
    exact ⟨rfl, Below.refl _ _⟩
  · rw [if_neg h10]
    have e10 : (((b.toNat : Nat) : Int) == 10) = false := xbyte_ne h10
    by_cases h9 : b = 9
    · subst h9
      go_enter Try.func105, Try.ntmps105
      go_wp2
      go_ret
      exact ⟨rfl, Below.refl _ _⟩
    · rw [if_neg h9]
      have e9 : (((b.toNat : Nat) : Int) == 9) = false := xbyte_ne h9
      cases hc : sg.contains b
      · have hix : ¬ 0 ≤ Lib.indexByte sg b := by have := hsg b; rw [hc] at this; simpa using this
        clear hc h10 h9 hsg
        go_enter Try.func105, Try.ntmps105
        go_wp2_with fail
        refine (Try.strings_IndexByte _ _ _).mono ?_
        rintro e w1 ⟨rfl, rfl⟩
        rw [xbyte_back]
        go_wp2
        rw [xconv1 w1 b]
        simp only [Result.andThen]
        rw [Oper.upon_value]
        go_wp2
        go_ret
        exact ⟨rfl, (Below.refl _ _).alloc (Nat.le_refl _) _⟩
      · have hix : 0 ≤ Lib.indexByte sg b := by have := hsg b; rw [hc] at this; simpa using this
        clear hc h10 h9 hsg
        go_enter Try.func105, Try.ntmps105
        go_wp2_with fail
        refine (Try.strings_IndexByte _ _ _).mono ?_
        rintro e w1 ⟨rfl, rfl⟩
        rw [xbyte_back]
        go_wp2
        rw [xconv2 w1 b]
        simp only [Result.andThen]
        rw [Oper.upon_value]
        go_wp2
        go_ret
        exact ⟨rfl, (Below.refl _ _).alloc (Nat.le_refl _) _⟩
end Go.Proofs.Ytponepcgokfiiaa
namespace Go.Proofs.Ytponepcgokfiiaa
open Go.RowKit

theorem str_bytes (l : List UInt8) : Lib.strCells ⟨l.toArray⟩ = Lib.byteCells l := rfl
theorem bytes_app (a b : List UInt8) : Lib.byteCells (a ++ b) = Lib.byteCells a ++ Lib.byteCells b := by simp [Lib.byteCells]
theorem isb_below {w w' : World} {T B b : Nat} {bs : List Value} (h : Lib.IsBuilder T 5 B b bs w) (hb : Below w.heap.size w w') : Lib.IsBuilder T 5 B b bs w' := by
  rcases h with h | h
  · obtain ⟨h1, v, h2, h3, h4⟩ := h
    exact Or.inl ⟨h1, v, (hb.block b (Array.getElem?_eq_some_iff.1 h2).1).trans h2, own_below h3 hb, h4⟩
  · obtain ⟨h1, v, h2, h3, h4⟩ := h
    exact Or.inr ⟨h1, v, (hb.block b (Array.getElem?_eq_some_iff.1 h2).1).trans h2, own_below h3 hb, h4⟩
set_option maxHeartbeats 1000000 in
set_option maxRecDepth 100000 in
theorem rangesText_any (A : Option Addr) (n c : Nat) (rs : List (UInt8 × UInt8)) (w : World) (hr : RgAt w (· < w.heap.size) A n rs) (hn : n ≤ 1000) :
    Calls Try.prog 106 #[.slice A n c] w fun e w' => e = .returned (.string ⟨(rangesT rs).toArray⟩) ∧ Below w.heap.size w w' := by
  go_enter Try.func106, Try.ntmps106
  go_wp2_with fail
  go_loopw [8] (fun i wr => ∃ k : Nat, k ≤ n ∧ i = .int .i64 k ∧ Lib.IsBuilder 106 5 w.heap.size w.heap.size (Lib.byteCells (rangesT (rs.take k))) wr ∧ Below w.heap.size w wr ∧ w.heap.size < wr.heap.size) (fun i _ => n - (intOf i).toNat)
  case atStart => exact ⟨0, Nat.zero_le _, rfl, Lib.fresh_isBuilder 106 5 w, (Below.refl _ w).alloc (Nat.le_refl _) _, by simp⟩
  case round =>
    obtain ⟨k, hk, rfl, hI, hbw, hlw⟩ := hrel
    have hB := hbw.size
    have hrl : rs.length = n := hr.1
    by_cases hlt : k < n
    · have hlt' : (k : Int) < (n : Int) := by omega
      obtain ⟨bb, oo, hA, hX, hcs⟩ := hr.2 (by omega)
      obtain ⟨r, hrk⟩ : ∃ r, rs[k]? = some r := ⟨rs[k]'(by omega), List.getElem?_eq_getElem (by omega)⟩
      obtain ⟨e0, e1⟩ := hcs k r hrk
      have e0' : wr.cell? ⟨bb, oo + k * 2, none⟩ = some (.int .u8 r.1.toNat) := by rw [hbw.cell (p := ⟨bb, oo + k * 2, none⟩) hX]; exact e0
      have e1' : wr.cell? ⟨bb, oo + k * 2 + 1, none⟩ = some (.int .u8 r.2.toNat) := by rw [hbw.cell (p := ⟨bb, oo + k * 2 + 1, none⟩) hX]; exact e1
      have hlen := rangesT_len (rs.take k)
      have hlen2 : (rs.take k).length ≤ 1000 := by have := List.length_take_le k rs; omega
      have hq : rangesT (rs.take (k + 1)) = rangesT (rs.take k) ++ range1T r := by
        have h' : k < rs.length := by omega
        rw [List.take_succ_eq_append_getElem h', rangesT_snoc]
        have := (List.getElem?_eq_some_iff.1 hrk).2
        rw [this]
      have hl1 := letterT_len csgs r.1
      have hl2 := letterT_len csgs r.2
      have hz : (0 : Int) ≤ (k : Int) := by omega
      subst hA
      have HQ := Lib.hid hq
      have HE := Lib.hid (And.intro e0' e1')
      obtain ⟨x, y⟩ := r
      clear hq e0 e1 hcs hrk hr
      go_wp2_with fail
      refine (letterText_any csgs csgs_ix x _).mono ?_
      rintro e w1 ⟨rfl, b1⟩
      have s1 := b1.size
      simp at s1
      have hI1 := isb_below hI (((Below.refl _ wr).alloc (Nat.le_refl _) (.cells #[.int .u8 x.toNat, .int .u8 y.toNat] 165)).trans (b1.mono (by simp)))
      have BR : Blk w1 wr.heap.size 165 #[.int .u8 x.toNat, .int .u8 y.toNat] := (Blk.new wr 165 _).below b1 (by simp)
      have hb1 : Below w.heap.size w w1 := (hbw.alloc hB (.cells #[.int .u8 x.toNat, .int .u8 y.toNat] 165)).trans (b1.mono (by simp; omega))
      have HI1 := Lib.hid hI1
      clear hI hI1
      go_wp2_with fail
      refine (bString w.heap.size w.heap.size _ ⟨(letterT csgs x).toArray⟩ _ HI1.out (by simp [Lib.byteCells_length, ByteArray.size]; omega) (by omega)).mono ?_
      rintro e w2 ⟨rfl, hI2, b2, hk2⟩
      have BR2 := hk2 _ _ BR
      have hs2 := BR2.lt
      obtain ⟨q0, q1, _, _⟩ := blk2 BR2
      have hb2 := hb1.trans b2
      have HI2 := Lib.hid hI2
      clear BR hI2 HE e0' e1'
      by_cases hyx : y = x
      · subst hyx
        go_wp2
        go_region_held3 (fun W => W.cell? ⟨wr.heap.size, 0, none⟩ = some (.int .u8 y.toNat) ∧ W.cell? ⟨wr.heap.size, 1, none⟩ = some (.int .u8 y.toNat)) (go_keep)
          ((go_at_call 104; refine (xone_any y _).mono ?_; rintro e w3 ⟨rfl, hb3⟩
            have g0 := (hb3.cell (p := ⟨wr.heap.size, 0, none⟩) hs2).trans q0
            have g1 := (hb3.cell (p := ⟨wr.heap.size, 1, none⟩) hs2).trans q1))
        have HQ2 := Lib.hid (show Lib.byteCells (rangesT (rs.take (k + 1))) = Lib.byteCells (rangesT (rs.take k)) ++ Lib.strCells ⟨(letterT csgs y).toArray⟩ by
          rw [HQ.out, bytes_app, str_bytes, range1T, if_pos rfl, List.append_nil])
        have hb3' : Below w2.heap.size w2 w3 := ⟨hb3.os, hb3.tape, hb3.output, hb3.size, hb3.block⟩
        go_wp2
        go_roundw
        case rel => exact ⟨k + 1, by omega, by go_num, by rw [HQ2.out]; exact isb_below (Or.inr HI2.out) hb3', hb2.trans (hb3'.mono hb2.size), by have := hb3'.size; omega⟩
        case measure => simp [intOf]; omega
      · have hxy : ¬ ((y.toNat : Nat) : Int) = ((x.toNat : Nat) : Int) := fun e => hyx (UInt8.toNat_inj.1 (by omega))
        go_wp2
        go_region_held3 (fun W => W.cell? ⟨wr.heap.size, 0, none⟩ = some (.int .u8 x.toNat) ∧ W.cell? ⟨wr.heap.size, 1, none⟩ = some (.int .u8 y.toNat)) (go_keep)
          ((go_at_call 104; refine (xone_any x _).mono ?_; rintro e w3 ⟨rfl, hb3⟩
            have g0 := (hb3.cell (p := ⟨wr.heap.size, 0, none⟩) hs2).trans q0
            have g1 := (hb3.cell (p := ⟨wr.heap.size, 1, none⟩) hs2).trans q1))
        have HQ2 := Lib.hid (show Lib.byteCells (rangesT (rs.take (k + 1))) = ((Lib.byteCells (rangesT (rs.take k)) ++ Lib.strCells ⟨(letterT csgs x).toArray⟩) ++ [.int .u8 45]) ++ Lib.strCells ⟨(letterT csgs y).toArray⟩ by
          rw [HQ.out, bytes_app, str_bytes, str_bytes, range1T, if_neg hyx, bytes_app]
          simp [Lib.byteCells])
        have hb3' : Below w2.heap.size w2 w3 := ⟨hb3.os, hb3.tape, hb3.output, hb3.size, hb3.block⟩
        have BR3 := BR2.below hb3' hs2
        have HI3 := Lib.hid (isb_below (Or.inr HI2.out) hb3')
        have hc3 := hb2.trans (hb3'.mono hb2.size)
        have hw3 := hc3.size
        clear HI2 HI1 hb3 BR2 q0 q1
        go_wp2_with fail
        refine (bByte w.heap.size w.heap.size _ 45 _ HI3.out (by simp [Lib.byteCells_length, Lib.strCells_length, ByteArray.size]; omega) hw3).mono ?_
        rintro e w4 ⟨rfl, hI4, b4, hk4⟩
        have BR4 := hk4 _ _ BR3
        obtain ⟨q0, q1, _, _⟩ := blk2 BR4
        have HI4 := Lib.hid hI4
        have hc4 := hc3.trans b4
        clear hI4
        go_wp2_with fail
        refine (letterText_any csgs csgs_ix y _).mono ?_
        rintro e w5 ⟨rfl, b5⟩
        have HI5 := Lib.hid (isb_below (Or.inr HI4.out) b5)
        have hc5 := hc4.trans (b5.mono hc4.size)
        have hw5 := hc5.size
        go_wp2_with fail
        refine (bString w.heap.size w.heap.size _ ⟨(letterT csgs y).toArray⟩ _ HI5.out (by simp [Lib.byteCells_length, Lib.strCells_length, ByteArray.size]; omega) hw5).mono ?_
        rintro e w6 ⟨rfl, hI6, b6, hk6⟩
        have HI6 := Lib.hid hI6
        have hl6 : w.heap.size < w6.heap.size := Lib.BuilderAt.lt hI6
        clear hI6
        go_wp2
        go_roundw
        case rel => exact ⟨k + 1, by omega, by go_num, by rw [HQ2.out]; exact Or.inr HI6.out, hc5.trans b6, hl6⟩
        case measure => simp [intOf]; omega
    · obtain rfl : k = n := by omega
      have HE := Lib.hid (show rs.take k = rs from List.take_of_length_le (by omega))
      go_wp2_with fail
      refine (Try.Builder_String_any w.heap.size w.heap.size (rangesT (rs.take k)) _ hI hB).mono ?_
      rintro e W1 ⟨rfl, b1⟩
      go_wp2
      go_ret
      exact ⟨by rw [HE.out]; rfl, hbw.trans b1⟩
end Go.Proofs.Ytponepcgokfiiaa
namespace Go.Proofs.Ytponepcgokfiiaa
open Go.RowKit

/-- Two rows of ranges in memory as slices. -/
theorem rg_up {w w' : World} {B n : Nat} {v : Value} {l : List (UInt8 × UInt8)} (h : w.ownsRow B 165 2 v n (rgCells l)) (hb : Below w.heap.size w w') :
    ∃ A c, v = .slice A l.length c ∧ l.length ≤ maxLen ∧ RgAt w' (· < w'.heap.size) A l.length l := by
  obtain ⟨A, c, hv, _, hm, hr⟩ := rg_of_own h
  exact ⟨A, c, hv, hm, (hr.keep (w' := w') fun b hb' => hb.block b hb'.2.1).mono fun b hb' => Nat.lt_of_lt_of_le hb'.2.1 hb.size⟩
theorem str91 (q : List UInt8) : ((⟨#[91]⟩ ++ ⟨q.toArray⟩) ++ ⟨#[93]⟩ : ByteArray) = ⟨(91 :: (q ++ [93])).toArray⟩ := by
  apply ByteArray.ext
  rw [ByteArray.data_append, ByteArray.data_append]; simp
theorem str94 (q : List UInt8) : ((⟨#[91, 94]⟩ ++ ⟨q.toArray⟩) ++ ⟨#[93]⟩ : ByteArray) = ⟨(91 :: 94 :: (q ++ [93])).toArray⟩ := by
  apply ByteArray.ext
  rw [ByteArray.data_append, ByteArray.data_append]; simp

set_option maxHeartbeats 1000000 in
set_option maxRecDepth 100000 in
theorem setText_one (A : Option Addr) (n c : Nat) (rs a o : List (UInt8 × UInt8)) (w : World) (hr : RgAt w (· < w.heap.size) A n rs) (hn : n ≤ maxLen) (ha : rangesL rs false = a) (ho : rangesL rs true = o) (h4 : a.length ≤ 256) (h5 : o.length ≤ 256) (x : UInt8) (hax : a = [(x, x)]) :
    Calls Try.prog 79 #[.slice A n c] w fun e w' => e = .returned (.string ⟨(letterT sgs x).toArray⟩) ∧ Below w.heap.size w w' := by
  have H1 := Lib.hid (fun W (h : RgAt W (· < W.heap.size) A n rs) => ranges_any A n c rs false W h hn)
  have H2 := Lib.hid (fun W (h : RgAt W (· < W.heap.size) A n rs) => ranges_any A n c rs true W h hn)
  rw [ha] at H1
  rw [ho] at H2
  clear ha ho
  have _ := h4
  have _ := h5
  go_enter Try.func79, Try.ntmps79
  go_wp2_with fail
  refine (H1.out _ hr).mono ?_
  rintro e w1 ⟨v1, rfl, hown1, b1⟩
  go_wp2_with fail
  have hr1 : RgAt w1 (· < w1.heap.size) A n rs := (hr.keep (w' := w1) fun b hb => b1.block b hb).mono fun b hb => Nat.lt_of_lt_of_le hb b1.size
  refine (H2.out _ hr1).mono ?_
  rintro e w2 ⟨v2, rfl, hown2, b2⟩
  obtain ⟨A1, c1, rfl, hm1, hra⟩ := rg_up hown1 b2
  obtain ⟨A2, c2, rfl, hm2, hro⟩ := rg_up hown2 (Below.refl _ w2)
  have hb := b1.trans (b2.mono b1.size)
  have HRA := Lib.hid hra
  have HRO := Lib.hid hro
  clear hr hr1 H1 H2 hown1 hown2 b1 b2 hra hro
  subst hax
  obtain ⟨bba, ooa, hAa, hXa, hca⟩ := HRA.out.2 (by simp)
  obtain ⟨e0a, e1a⟩ := hca 0 _ rfl
  have hX2a : bba < w2.heap.size := hXa
  simp only [Nat.zero_mul, Nat.add_zero] at e0a e1a
  subst hAa
  clear hca
  go_wp2
  go_region_held3 (fun W => W.cell? ⟨bba, ooa, none⟩ = some (.int .u8 x.toNat) ∧ W.cell? ⟨bba, ooa + 1, none⟩ = some (.int .u8 x.toNat)) (go_keep)
    ((go_at_call 104; refine (xone_any x _).mono ?_; rintro e w3 ⟨rfl, hba⟩
      have g0a := (hba.cell (p := ⟨bba, ooa, none⟩) hX2a).trans e0a
      have g1a := (hba.cell (p := ⟨bba, ooa + 1, none⟩) hX2a).trans e1a))
  have hba' : Below w2.heap.size w2 w3 := ⟨hba.os, hba.tape, hba.output, hba.size, hba.block⟩
  have hc3 := hb.trans (hba'.mono hb.size)
  have HRO3 := Lib.hid ((HRO.out.keep (w' := w3) fun b hb' => hba'.block b hb').mono (Y := (· < w3.heap.size)) fun b hb' => Nat.lt_of_lt_of_le hb' hba'.size)
  have HRA3 := Lib.hid ((HRA.out.keep (w' := w3) fun b hb' => hba'.block b hb').mono (Y := (· < w3.heap.size)) fun b hb' => Nat.lt_of_lt_of_le hb' hba'.size)
  go_wp2_with fail
  refine (letterText_any sgs sgs_ix x _).mono ?_
  rintro e w4 ⟨rfl, b4⟩
  go_wp2
  go_ret
  exact ⟨rfl, hc3.trans (b4.mono hc3.size)⟩

set_option maxHeartbeats 1000000 in
set_option maxRecDepth 100000 in
theorem setText_B_dot (A : Option Addr) (n c : Nat) (rs a o : List (UInt8 × UInt8)) (w : World) (hr : RgAt w (· < w.heap.size) A n rs) (hn : n ≤ maxLen) (ha : rangesL rs false = a) (ho : rangesL rs true = o) (h4 : a.length ≤ 256) (h5 : o.length ≤ 256) (x y : UInt8) (hax : a = [(x, y)]) (hyx : ¬ ((y.toNat : Nat) : Int) = ((x.toNat : Nat) : Int)) (hox : o = [(10, 10)]) :
    Calls Try.prog 79 #[.slice A n c] w fun e w' => e = .returned (.string ⟨([46]).toArray⟩) ∧ Below w.heap.size w w' := by
  have H1 := Lib.hid (fun W (h : RgAt W (· < W.heap.size) A n rs) => ranges_any A n c rs false W h hn)
  have H2 := Lib.hid (fun W (h : RgAt W (· < W.heap.size) A n rs) => ranges_any A n c rs true W h hn)
  rw [ha] at H1
  rw [ho] at H2
  clear ha ho
  have _ := h4
  have _ := h5
  go_enter Try.func79, Try.ntmps79
  go_wp2_with fail
  refine (H1.out _ hr).mono ?_
  rintro e w1 ⟨v1, rfl, hown1, b1⟩
  go_wp2_with fail
  have hr1 : RgAt w1 (· < w1.heap.size) A n rs := (hr.keep (w' := w1) fun b hb => b1.block b hb).mono fun b hb => Nat.lt_of_lt_of_le hb b1.size
  refine (H2.out _ hr1).mono ?_
  rintro e w2 ⟨v2, rfl, hown2, b2⟩
  obtain ⟨A1, c1, rfl, hm1, hra⟩ := rg_up hown1 b2
  obtain ⟨A2, c2, rfl, hm2, hro⟩ := rg_up hown2 (Below.refl _ w2)
  have hb := b1.trans (b2.mono b1.size)
  have HRA := Lib.hid hra
  have HRO := Lib.hid hro
  clear hr hr1 H1 H2 hown1 hown2 b1 b2 hra hro
  subst hax
  subst hox
  obtain ⟨bba, ooa, hAa, hXa, hca⟩ := HRA.out.2 (by simp)
  obtain ⟨e0a, e1a⟩ := hca 0 _ rfl
  have hX2a : bba < w2.heap.size := hXa
  simp only [Nat.zero_mul, Nat.add_zero] at e0a e1a
  subst hAa
  clear hca
  go_wp2
  go_region_held3 (fun W => W.cell? ⟨bba, ooa, none⟩ = some (.int .u8 x.toNat) ∧ W.cell? ⟨bba, ooa + 1, none⟩ = some (.int .u8 y.toNat)) (go_keep)
    ((go_at_call 104; refine (xone_any x _).mono ?_; rintro e w3 ⟨rfl, hba⟩
      have g0a := (hba.cell (p := ⟨bba, ooa, none⟩) hX2a).trans e0a
      have g1a := (hba.cell (p := ⟨bba, ooa + 1, none⟩) hX2a).trans e1a))
  have hba' : Below w2.heap.size w2 w3 := ⟨hba.os, hba.tape, hba.output, hba.size, hba.block⟩
  have hc3 := hb.trans (hba'.mono hb.size)
  have HRO3 := Lib.hid ((HRO.out.keep (w' := w3) fun b hb' => hba'.block b hb').mono (Y := (· < w3.heap.size)) fun b hb' => Nat.lt_of_lt_of_le hb' hba'.size)
  have HRA3 := Lib.hid ((HRA.out.keep (w' := w3) fun b hb' => hba'.block b hb').mono (Y := (· < w3.heap.size)) fun b hb' => Nat.lt_of_lt_of_le hb' hba'.size)
  obtain ⟨bbo, ooo, hAo, hXo, hco⟩ := HRO3.out.2 (by simp)
  obtain ⟨e0o, e1o⟩ := hco 0 _ rfl
  have hX2o : bbo < w3.heap.size := hXo
  simp only [Nat.zero_mul, Nat.add_zero] at e0o e1o
  subst hAo
  clear hco
  go_wp2
  go_region_held3 (fun W => W.cell? ⟨bbo, ooo, none⟩ = some (.int .u8 (10 : UInt8).toNat) ∧ W.cell? ⟨bbo, ooo + 1, none⟩ = some (.int .u8 (10 : UInt8).toNat)) (go_keep)
    ((go_at_call 104; refine (xone_any 10 _).mono ?_; rintro e w4 ⟨rfl, hbo⟩
      have g0o := (hbo.cell (p := ⟨bbo, ooo, none⟩) hX2o).trans e0o
      have g1o := (hbo.cell (p := ⟨bbo, ooo + 1, none⟩) hX2o).trans e1o))
  have hbo' : Below w3.heap.size w3 w4 := ⟨hbo.os, hbo.tape, hbo.output, hbo.size, hbo.block⟩
  have hc4 := hc3.trans (hbo'.mono hc3.size)
  go_wp2
  go_ret
  exact ⟨rfl, hc4⟩

set_option maxHeartbeats 1000000 in
set_option maxRecDepth 100000 in
theorem setText_B_f1a (A : Option Addr) (n c : Nat) (rs a o : List (UInt8 × UInt8)) (w : World) (hr : RgAt w (· < w.heap.size) A n rs) (hn : n ≤ maxLen) (ha : rangesL rs false = a) (ho : rangesL rs true = o) (h4 : a.length ≤ 256) (h5 : o.length ≤ 256) (x y : UInt8) (hax : a = [(x, y)]) (hyx : ¬ ((y.toNat : Nat) : Int) = ((x.toNat : Nat) : Int)) (u v : UInt8) (hox : o = [(u, v)]) (hu : ¬ ((u.toNat : Nat) : Int) = 10) :
    Calls Try.prog 79 #[.slice A n c] w fun e w' => e = .returned (.string ⟨([91] ++ rangesT [(x, y)] ++ [93]).toArray⟩) ∧ Below w.heap.size w w' := by
  have H1 := Lib.hid (fun W (h : RgAt W (· < W.heap.size) A n rs) => ranges_any A n c rs false W h hn)
  have H2 := Lib.hid (fun W (h : RgAt W (· < W.heap.size) A n rs) => ranges_any A n c rs true W h hn)
  rw [ha] at H1
  rw [ho] at H2
  clear ha ho
  have _ := h4
  have _ := h5
  go_enter Try.func79, Try.ntmps79
  go_wp2_with fail
  refine (H1.out _ hr).mono ?_
  rintro e w1 ⟨v1, rfl, hown1, b1⟩
  go_wp2_with fail
  have hr1 : RgAt w1 (· < w1.heap.size) A n rs := (hr.keep (w' := w1) fun b hb => b1.block b hb).mono fun b hb => Nat.lt_of_lt_of_le hb b1.size
  refine (H2.out _ hr1).mono ?_
  rintro e w2 ⟨v2, rfl, hown2, b2⟩
  obtain ⟨A1, c1, rfl, hm1, hra⟩ := rg_up hown1 b2
  obtain ⟨A2, c2, rfl, hm2, hro⟩ := rg_up hown2 (Below.refl _ w2)
  have hb := b1.trans (b2.mono b1.size)
  have HRA := Lib.hid hra
  have HRO := Lib.hid hro
  clear hr hr1 H1 H2 hown1 hown2 b1 b2 hra hro
  subst hax
  subst hox
  obtain ⟨bba, ooa, hAa, hXa, hca⟩ := HRA.out.2 (by simp)
  obtain ⟨e0a, e1a⟩ := hca 0 _ rfl
  have hX2a : bba < w2.heap.size := hXa
  simp only [Nat.zero_mul, Nat.add_zero] at e0a e1a
  subst hAa
  clear hca
  go_wp2
  go_region_held3 (fun W => W.cell? ⟨bba, ooa, none⟩ = some (.int .u8 x.toNat) ∧ W.cell? ⟨bba, ooa + 1, none⟩ = some (.int .u8 y.toNat)) (go_keep)
    ((go_at_call 104; refine (xone_any x _).mono ?_; rintro e w3 ⟨rfl, hba⟩
      have g0a := (hba.cell (p := ⟨bba, ooa, none⟩) hX2a).trans e0a
      have g1a := (hba.cell (p := ⟨bba, ooa + 1, none⟩) hX2a).trans e1a))
  have hba' : Below w2.heap.size w2 w3 := ⟨hba.os, hba.tape, hba.output, hba.size, hba.block⟩
  have hc3 := hb.trans (hba'.mono hb.size)
  have HRO3 := Lib.hid ((HRO.out.keep (w' := w3) fun b hb' => hba'.block b hb').mono (Y := (· < w3.heap.size)) fun b hb' => Nat.lt_of_lt_of_le hb' hba'.size)
  have HRA3 := Lib.hid ((HRA.out.keep (w' := w3) fun b hb' => hba'.block b hb').mono (Y := (· < w3.heap.size)) fun b hb' => Nat.lt_of_lt_of_le hb' hba'.size)
  obtain ⟨bbo, ooo, hAo, hXo, hco⟩ := HRO3.out.2 (by simp)
  obtain ⟨e0o, e1o⟩ := hco 0 _ rfl
  have hX2o : bbo < w3.heap.size := hXo
  simp only [Nat.zero_mul, Nat.add_zero] at e0o e1o
  subst hAo
  clear hco
  go_wp2
  go_region_held3 (fun W => W.cell? ⟨bbo, ooo, none⟩ = some (.int .u8 u.toNat) ∧ W.cell? ⟨bbo, ooo + 1, none⟩ = some (.int .u8 v.toNat)) (go_keep)
    ((go_at_call 104; refine (xone_any 10 _).mono ?_; rintro e w4 ⟨rfl, hbo⟩
      have g0o := (hbo.cell (p := ⟨bbo, ooo, none⟩) hX2o).trans e0o
      have g1o := (hbo.cell (p := ⟨bbo, ooo + 1, none⟩) hX2o).trans e1o))
  have hbo' : Below w3.heap.size w3 w4 := ⟨hbo.os, hbo.tape, hbo.output, hbo.size, hbo.block⟩
  have hc4 := hc3.trans (hbo'.mono hc3.size)
  have HRO4 := Lib.hid ((HRO3.out.keep (w' := w4) fun b hb' => hbo'.block b hb').mono (Y := (· < w4.heap.size)) fun b hb' => Nat.lt_of_lt_of_le hb' hbo'.size)
  have HRA4 := Lib.hid ((HRA3.out.keep (w' := w4) fun b hb' => hbo'.block b hb').mono (Y := (· < w4.heap.size)) fun b hb' => Nat.lt_of_lt_of_le hb' hbo'.size)
  go_wp2_with fail
  refine (rangesText_any _ _ _ _ _ HRA4.out (by first | omega | simp)).mono ?_
  rintro e w5 ⟨rfl, b5⟩
  have hq1 := rangesT_len [(x, y)]
  have hq2 : (rangesT [(x, y)]).length ≤ 2000 := by first | omega | (simp at hq1; omega)
  have hq3 : (⟨(rangesT [(x, y)]).toArray⟩ : ByteArray).size ≤ 2000 := hq2
  clear hq1
  go_wp2
  go_ret
  exact ⟨congrArg (fun s => Ending.returned (.string s)) (str91 _), hc4.trans (b5.mono hc4.size)⟩

set_option maxHeartbeats 1000000 in
set_option maxRecDepth 100000 in
theorem setText_B_f1b (A : Option Addr) (n c : Nat) (rs a o : List (UInt8 × UInt8)) (w : World) (hr : RgAt w (· < w.heap.size) A n rs) (hn : n ≤ maxLen) (ha : rangesL rs false = a) (ho : rangesL rs true = o) (h4 : a.length ≤ 256) (h5 : o.length ≤ 256) (x y : UInt8) (hax : a = [(x, y)]) (hyx : ¬ ((y.toNat : Nat) : Int) = ((x.toNat : Nat) : Int)) (v : UInt8) (hox : o = [(10, v)]) (hu : ¬ ((v.toNat : Nat) : Int) = 10) :
    Calls Try.prog 79 #[.slice A n c] w fun e w' => e = .returned (.string ⟨([91] ++ rangesT [(x, y)] ++ [93]).toArray⟩) ∧ Below w.heap.size w w' := by
  have H1 := Lib.hid (fun W (h : RgAt W (· < W.heap.size) A n rs) => ranges_any A n c rs false W h hn)
  have H2 := Lib.hid (fun W (h : RgAt W (· < W.heap.size) A n rs) => ranges_any A n c rs true W h hn)
  rw [ha] at H1
  rw [ho] at H2
  clear ha ho
  have _ := h4
  have _ := h5
  go_enter Try.func79, Try.ntmps79
  go_wp2_with fail
  refine (H1.out _ hr).mono ?_
  rintro e w1 ⟨v1, rfl, hown1, b1⟩
  go_wp2_with fail
  have hr1 : RgAt w1 (· < w1.heap.size) A n rs := (hr.keep (w' := w1) fun b hb => b1.block b hb).mono fun b hb => Nat.lt_of_lt_of_le hb b1.size
  refine (H2.out _ hr1).mono ?_
  rintro e w2 ⟨v2, rfl, hown2, b2⟩
  obtain ⟨A1, c1, rfl, hm1, hra⟩ := rg_up hown1 b2
  obtain ⟨A2, c2, rfl, hm2, hro⟩ := rg_up hown2 (Below.refl _ w2)
  have hb := b1.trans (b2.mono b1.size)
  have HRA := Lib.hid hra
  have HRO := Lib.hid hro
  clear hr hr1 H1 H2 hown1 hown2 b1 b2 hra hro
  subst hax
  subst hox
  obtain ⟨bba, ooa, hAa, hXa, hca⟩ := HRA.out.2 (by simp)
  obtain ⟨e0a, e1a⟩ := hca 0 _ rfl
  have hX2a : bba < w2.heap.size := hXa
  simp only [Nat.zero_mul, Nat.add_zero] at e0a e1a
  subst hAa
  clear hca
  go_wp2
  go_region_held3 (fun W => W.cell? ⟨bba, ooa, none⟩ = some (.int .u8 x.toNat) ∧ W.cell? ⟨bba, ooa + 1, none⟩ = some (.int .u8 y.toNat)) (go_keep)
    ((go_at_call 104; refine (xone_any x _).mono ?_; rintro e w3 ⟨rfl, hba⟩
      have g0a := (hba.cell (p := ⟨bba, ooa, none⟩) hX2a).trans e0a
      have g1a := (hba.cell (p := ⟨bba, ooa + 1, none⟩) hX2a).trans e1a))
  have hba' : Below w2.heap.size w2 w3 := ⟨hba.os, hba.tape, hba.output, hba.size, hba.block⟩
  have hc3 := hb.trans (hba'.mono hb.size)
  have HRO3 := Lib.hid ((HRO.out.keep (w' := w3) fun b hb' => hba'.block b hb').mono (Y := (· < w3.heap.size)) fun b hb' => Nat.lt_of_lt_of_le hb' hba'.size)
  have HRA3 := Lib.hid ((HRA.out.keep (w' := w3) fun b hb' => hba'.block b hb').mono (Y := (· < w3.heap.size)) fun b hb' => Nat.lt_of_lt_of_le hb' hba'.size)
  obtain ⟨bbo, ooo, hAo, hXo, hco⟩ := HRO3.out.2 (by simp)
  obtain ⟨e0o, e1o⟩ := hco 0 _ rfl
  have hX2o : bbo < w3.heap.size := hXo
  simp only [Nat.zero_mul, Nat.add_zero] at e0o e1o
  subst hAo
  clear hco
  go_wp2
  go_region_held3 (fun W => W.cell? ⟨bbo, ooo, none⟩ = some (.int .u8 (10 : UInt8).toNat) ∧ W.cell? ⟨bbo, ooo + 1, none⟩ = some (.int .u8 v.toNat)) (go_keep)
    ((go_at_call 104; refine (xone_any 10 _).mono ?_; rintro e w4 ⟨rfl, hbo⟩
      have g0o := (hbo.cell (p := ⟨bbo, ooo, none⟩) hX2o).trans e0o
      have g1o := (hbo.cell (p := ⟨bbo, ooo + 1, none⟩) hX2o).trans e1o))
  have hbo' : Below w3.heap.size w3 w4 := ⟨hbo.os, hbo.tape, hbo.output, hbo.size, hbo.block⟩
  have hc4 := hc3.trans (hbo'.mono hc3.size)
  have HRO4 := Lib.hid ((HRO3.out.keep (w' := w4) fun b hb' => hbo'.block b hb').mono (Y := (· < w4.heap.size)) fun b hb' => Nat.lt_of_lt_of_le hb' hbo'.size)
  have HRA4 := Lib.hid ((HRA3.out.keep (w' := w4) fun b hb' => hbo'.block b hb').mono (Y := (· < w4.heap.size)) fun b hb' => Nat.lt_of_lt_of_le hb' hbo'.size)
  go_wp2_with fail
  refine (rangesText_any _ _ _ _ _ HRA4.out (by first | omega | simp)).mono ?_
  rintro e w5 ⟨rfl, b5⟩
  have hq1 := rangesT_len [(x, y)]
  have hq2 : (rangesT [(x, y)]).length ≤ 2000 := by first | omega | (simp at hq1; omega)
  have hq3 : (⟨(rangesT [(x, y)]).toArray⟩ : ByteArray).size ≤ 2000 := hq2
  clear hq1
  go_wp2
  go_ret
  exact ⟨congrArg (fun s => Ending.returned (.string s)) (str91 _), hc4.trans (b5.mono hc4.size)⟩

set_option maxHeartbeats 1000000 in
set_option maxRecDepth 100000 in
theorem setText_B_f20 (A : Option Addr) (n c : Nat) (rs a o : List (UInt8 × UInt8)) (w : World) (hr : RgAt w (· < w.heap.size) A n rs) (hn : n ≤ maxLen) (ha : rangesL rs false = a) (ho : rangesL rs true = o) (h4 : a.length ≤ 256) (h5 : o.length ≤ 256) (x y : UInt8) (hax : a = [(x, y)]) (hyx : ¬ ((y.toNat : Nat) : Int) = ((x.toNat : Nat) : Int)) (hol0 : o.length ≠ 1) (k1 : o.length = 0) :
    Calls Try.prog 79 #[.slice A n c] w fun e w' => e = .returned (.string ⟨([91] ++ rangesT [(x, y)] ++ [93]).toArray⟩) ∧ Below w.heap.size w w' := by
  have H1 := Lib.hid (fun W (h : RgAt W (· < W.heap.size) A n rs) => ranges_any A n c rs false W h hn)
  have H2 := Lib.hid (fun W (h : RgAt W (· < W.heap.size) A n rs) => ranges_any A n c rs true W h hn)
  rw [ha] at H1
  rw [ho] at H2
  clear ha ho
  have _ := h4
  have _ := h5
  have _ := hol0
  go_enter Try.func79, Try.ntmps79
  go_wp2_with fail
  refine (H1.out _ hr).mono ?_
  rintro e w1 ⟨v1, rfl, hown1, b1⟩
  go_wp2_with fail
  have hr1 : RgAt w1 (· < w1.heap.size) A n rs := (hr.keep (w' := w1) fun b hb => b1.block b hb).mono fun b hb => Nat.lt_of_lt_of_le hb b1.size
  refine (H2.out _ hr1).mono ?_
  rintro e w2 ⟨v2, rfl, hown2, b2⟩
  obtain ⟨A1, c1, rfl, hm1, hra⟩ := rg_up hown1 b2
  obtain ⟨A2, c2, rfl, hm2, hro⟩ := rg_up hown2 (Below.refl _ w2)
  have hb := b1.trans (b2.mono b1.size)
  have HRA := Lib.hid hra
  have HRO := Lib.hid hro
  clear hr hr1 H1 H2 hown1 hown2 b1 b2 hra hro
  subst hax
  obtain ⟨bba, ooa, hAa, hXa, hca⟩ := HRA.out.2 (by simp)
  obtain ⟨e0a, e1a⟩ := hca 0 _ rfl
  have hX2a : bba < w2.heap.size := hXa
  simp only [Nat.zero_mul, Nat.add_zero] at e0a e1a
  subst hAa
  clear hca
  go_wp2
  go_region_held3 (fun W => W.cell? ⟨bba, ooa, none⟩ = some (.int .u8 x.toNat) ∧ W.cell? ⟨bba, ooa + 1, none⟩ = some (.int .u8 y.toNat)) (go_keep)
    ((go_at_call 104; refine (xone_any x _).mono ?_; rintro e w3 ⟨rfl, hba⟩
      have g0a := (hba.cell (p := ⟨bba, ooa, none⟩) hX2a).trans e0a
      have g1a := (hba.cell (p := ⟨bba, ooa + 1, none⟩) hX2a).trans e1a))
  have hba' : Below w2.heap.size w2 w3 := ⟨hba.os, hba.tape, hba.output, hba.size, hba.block⟩
  have hc3 := hb.trans (hba'.mono hb.size)
  have HRO3 := Lib.hid ((HRO.out.keep (w' := w3) fun b hb' => hba'.block b hb').mono (Y := (· < w3.heap.size)) fun b hb' => Nat.lt_of_lt_of_le hb' hba'.size)
  have HRA3 := Lib.hid ((HRA.out.keep (w' := w3) fun b hb' => hba'.block b hb').mono (Y := (· < w3.heap.size)) fun b hb' => Nat.lt_of_lt_of_le hb' hba'.size)
  have k1' : (o.length : Int) = 0 := by omega
  have hol : ¬ (o.length : Int) = 1 := by omega
  have hole : ((o.length : Int) == 1) = false := by simpa using hol
  go_wp2
  go_region
  have hbo' : Below w3.heap.size w3 w3.drew := ⟨rfl, rfl, rfl, Nat.le_refl _, fun _ _ => rfl⟩
  obtain ⟨w4, hw4⟩ : ∃ w4, w4 = w3.drew := ⟨_, rfl⟩
  rw [← hw4] at hbo' ⊢
  have hc4 := hc3.trans (hbo'.mono hc3.size)
  clear hw4
  have HRO4 := Lib.hid ((HRO3.out.keep (w' := w4) fun b hb' => hbo'.block b hb').mono (Y := (· < w4.heap.size)) fun b hb' => Nat.lt_of_lt_of_le hb' hbo'.size)
  have HRA4 := Lib.hid ((HRA3.out.keep (w' := w4) fun b hb' => hbo'.block b hb').mono (Y := (· < w4.heap.size)) fun b hb' => Nat.lt_of_lt_of_le hb' hbo'.size)
  go_wp2_with fail
  refine (rangesText_any _ _ _ _ _ HRA4.out (by first | omega | simp)).mono ?_
  rintro e w5 ⟨rfl, b5⟩
  have hq1 := rangesT_len [(x, y)]
  have hq2 : (rangesT [(x, y)]).length ≤ 2000 := by first | omega | (simp at hq1; omega)
  have hq3 : (⟨(rangesT [(x, y)]).toArray⟩ : ByteArray).size ≤ 2000 := hq2
  clear hq1
  go_wp2
  go_ret
  exact ⟨congrArg (fun s => Ending.returned (.string s)) (str91 _), hc4.trans (b5.mono hc4.size)⟩

set_option maxHeartbeats 1000000 in
set_option maxRecDepth 100000 in
theorem setText_B_f21 (A : Option Addr) (n c : Nat) (rs a o : List (UInt8 × UInt8)) (w : World) (hr : RgAt w (· < w.heap.size) A n rs) (hn : n ≤ maxLen) (ha : rangesL rs false = a) (ho : rangesL rs true = o) (h4 : a.length ≤ 256) (h5 : o.length ≤ 256) (x y : UInt8) (hax : a = [(x, y)]) (hyx : ¬ ((y.toNat : Nat) : Int) = ((x.toNat : Nat) : Int)) (hol0 : o.length ≠ 1) (k1 : 1 ≤ o.length) :
    Calls Try.prog 79 #[.slice A n c] w fun e w' => e = .returned (.string ⟨([91] ++ rangesT [(x, y)] ++ [93]).toArray⟩) ∧ Below w.heap.size w w' := by
  have H1 := Lib.hid (fun W (h : RgAt W (· < W.heap.size) A n rs) => ranges_any A n c rs false W h hn)
  have H2 := Lib.hid (fun W (h : RgAt W (· < W.heap.size) A n rs) => ranges_any A n c rs true W h hn)
  rw [ha] at H1
  rw [ho] at H2
  clear ha ho
  have _ := h4
  have _ := h5
  have _ := hol0
  go_enter Try.func79, Try.ntmps79
  go_wp2_with fail
  refine (H1.out _ hr).mono ?_
  rintro e w1 ⟨v1, rfl, hown1, b1⟩
  go_wp2_with fail
  have hr1 : RgAt w1 (· < w1.heap.size) A n rs := (hr.keep (w' := w1) fun b hb => b1.block b hb).mono fun b hb => Nat.lt_of_lt_of_le hb b1.size
  refine (H2.out _ hr1).mono ?_
  rintro e w2 ⟨v2, rfl, hown2, b2⟩
  obtain ⟨A1, c1, rfl, hm1, hra⟩ := rg_up hown1 b2
  obtain ⟨A2, c2, rfl, hm2, hro⟩ := rg_up hown2 (Below.refl _ w2)
  have hb := b1.trans (b2.mono b1.size)
  have HRA := Lib.hid hra
  have HRO := Lib.hid hro
  clear hr hr1 H1 H2 hown1 hown2 b1 b2 hra hro
  subst hax
  obtain ⟨bba, ooa, hAa, hXa, hca⟩ := HRA.out.2 (by simp)
  obtain ⟨e0a, e1a⟩ := hca 0 _ rfl
  have hX2a : bba < w2.heap.size := hXa
  simp only [Nat.zero_mul, Nat.add_zero] at e0a e1a
  subst hAa
  clear hca
  go_wp2
  go_region_held3 (fun W => W.cell? ⟨bba, ooa, none⟩ = some (.int .u8 x.toNat) ∧ W.cell? ⟨bba, ooa + 1, none⟩ = some (.int .u8 y.toNat)) (go_keep)
    ((go_at_call 104; refine (xone_any x _).mono ?_; rintro e w3 ⟨rfl, hba⟩
      have g0a := (hba.cell (p := ⟨bba, ooa, none⟩) hX2a).trans e0a
      have g1a := (hba.cell (p := ⟨bba, ooa + 1, none⟩) hX2a).trans e1a))
  have hba' : Below w2.heap.size w2 w3 := ⟨hba.os, hba.tape, hba.output, hba.size, hba.block⟩
  have hc3 := hb.trans (hba'.mono hb.size)
  have HRO3 := Lib.hid ((HRO.out.keep (w' := w3) fun b hb' => hba'.block b hb').mono (Y := (· < w3.heap.size)) fun b hb' => Nat.lt_of_lt_of_le hb' hba'.size)
  have HRA3 := Lib.hid ((HRA.out.keep (w' := w3) fun b hb' => hba'.block b hb').mono (Y := (· < w3.heap.size)) fun b hb' => Nat.lt_of_lt_of_le hb' hba'.size)
  have k1' : (0 : Int) < (o.length : Int) := by omega
  have k2' : ¬ (o.length : Int) < 1 := by omega
  have hol : ¬ (o.length : Int) = 1 := by omega
  have hole : ((o.length : Int) == 1) = false := by simpa using hol
  go_wp2
  go_region
  have hbo' : Below w3.heap.size w3 w3.drew := ⟨rfl, rfl, rfl, Nat.le_refl _, fun _ _ => rfl⟩
  obtain ⟨w4, hw4⟩ : ∃ w4, w4 = w3.drew := ⟨_, rfl⟩
  rw [← hw4] at hbo' ⊢
  have hc4 := hc3.trans (hbo'.mono hc3.size)
  clear hw4
  have HRO4 := Lib.hid ((HRO3.out.keep (w' := w4) fun b hb' => hbo'.block b hb').mono (Y := (· < w4.heap.size)) fun b hb' => Nat.lt_of_lt_of_le hb' hbo'.size)
  have HRA4 := Lib.hid ((HRA3.out.keep (w' := w4) fun b hb' => hbo'.block b hb').mono (Y := (· < w4.heap.size)) fun b hb' => Nat.lt_of_lt_of_le hb' hbo'.size)
  go_wp2_with fail
  refine (rangesText_any _ _ _ _ _ HRA4.out (by first | omega | simp)).mono ?_
  rintro e w5 ⟨rfl, b5⟩
  have hq1 := rangesT_len [(x, y)]
  have hq2 : (rangesT [(x, y)]).length ≤ 2000 := by first | omega | (simp at hq1; omega)
  have hq3 : (⟨(rangesT [(x, y)]).toArray⟩ : ByteArray).size ≤ 2000 := hq2
  clear hq1
  go_wp2
  go_ret
  exact ⟨congrArg (fun s => Ending.returned (.string s)) (str91 _), hc4.trans (b5.mono hc4.size)⟩

set_option maxHeartbeats 1000000 in
set_option maxRecDepth 100000 in
theorem setText_C_dot (A : Option Addr) (n c : Nat) (rs a o : List (UInt8 × UInt8)) (w : World) (hr : RgAt w (· < w.heap.size) A n rs) (hn : n ≤ maxLen) (ha : rangesL rs false = a) (ho : rangesL rs true = o) (h4 : a.length ≤ 256) (h5 : o.length ≤ 256) (hal0 : a.length ≠ 1) (hox : o = [(10, 10)]) :
    Calls Try.prog 79 #[.slice A n c] w fun e w' => e = .returned (.string ⟨([46]).toArray⟩) ∧ Below w.heap.size w w' := by
  have H1 := Lib.hid (fun W (h : RgAt W (· < W.heap.size) A n rs) => ranges_any A n c rs false W h hn)
  have H2 := Lib.hid (fun W (h : RgAt W (· < W.heap.size) A n rs) => ranges_any A n c rs true W h hn)
  rw [ha] at H1
  rw [ho] at H2
  clear ha ho
  have _ := h4
  have _ := h5
  have _ := hal0
  go_enter Try.func79, Try.ntmps79
  go_wp2_with fail
  refine (H1.out _ hr).mono ?_
  rintro e w1 ⟨v1, rfl, hown1, b1⟩
  go_wp2_with fail
  have hr1 : RgAt w1 (· < w1.heap.size) A n rs := (hr.keep (w' := w1) fun b hb => b1.block b hb).mono fun b hb => Nat.lt_of_lt_of_le hb b1.size
  refine (H2.out _ hr1).mono ?_
  rintro e w2 ⟨v2, rfl, hown2, b2⟩
  obtain ⟨A1, c1, rfl, hm1, hra⟩ := rg_up hown1 b2
  obtain ⟨A2, c2, rfl, hm2, hro⟩ := rg_up hown2 (Below.refl _ w2)
  have hb := b1.trans (b2.mono b1.size)
  have HRA := Lib.hid hra
  have HRO := Lib.hid hro
  clear hr hr1 H1 H2 hown1 hown2 b1 b2 hra hro
  subst hox
  have hal : ¬ (a.length : Int) = 1 := by omega
  have hale : ((a.length : Int) == 1) = false := by simpa using hal
  go_wp2
  go_region
  have hba' : Below w2.heap.size w2 w2.drew := ⟨rfl, rfl, rfl, Nat.le_refl _, fun _ _ => rfl⟩
  obtain ⟨w3, hw3⟩ : ∃ w3, w3 = w2.drew := ⟨_, rfl⟩
  rw [← hw3] at hba' ⊢
  have hc3 := hb.trans (hba'.mono hb.size)
  have HRO3 := Lib.hid ((HRO.out.keep (w' := w3) fun b hb' => hba'.block b hb').mono (Y := (· < w3.heap.size)) fun b hb' => Nat.lt_of_lt_of_le hb' hba'.size)
  have HRA3 := Lib.hid ((HRA.out.keep (w' := w3) fun b hb' => hba'.block b hb').mono (Y := (· < w3.heap.size)) fun b hb' => Nat.lt_of_lt_of_le hb' hba'.size)
  clear hw3
  obtain ⟨bbo, ooo, hAo, hXo, hco⟩ := HRO3.out.2 (by simp)
  obtain ⟨e0o, e1o⟩ := hco 0 _ rfl
  have hX2o : bbo < w3.heap.size := hXo
  simp only [Nat.zero_mul, Nat.add_zero] at e0o e1o
  subst hAo
  clear hco
  go_wp2
  go_region_held3 (fun W => W.cell? ⟨bbo, ooo, none⟩ = some (.int .u8 (10 : UInt8).toNat) ∧ W.cell? ⟨bbo, ooo + 1, none⟩ = some (.int .u8 (10 : UInt8).toNat)) (go_keep)
    ((go_at_call 104; refine (xone_any 10 _).mono ?_; rintro e w4 ⟨rfl, hbo⟩
      have g0o := (hbo.cell (p := ⟨bbo, ooo, none⟩) hX2o).trans e0o
      have g1o := (hbo.cell (p := ⟨bbo, ooo + 1, none⟩) hX2o).trans e1o))
  have hbo' : Below w3.heap.size w3 w4 := ⟨hbo.os, hbo.tape, hbo.output, hbo.size, hbo.block⟩
  have hc4 := hc3.trans (hbo'.mono hc3.size)
  go_wp2
  go_ret
  exact ⟨rfl, hc4⟩

set_option maxHeartbeats 1000000 in
set_option maxRecDepth 100000 in
theorem setText_C_f1a0 (A : Option Addr) (n c : Nat) (rs a o : List (UInt8 × UInt8)) (w : World) (hr : RgAt w (· < w.heap.size) A n rs) (hn : n ≤ maxLen) (ha : rangesL rs false = a) (ho : rangesL rs true = o) (h4 : a.length ≤ 256) (h5 : o.length ≤ 256) (hal0 : a.length ≠ 1) (u v : UInt8) (hox : o = [(u, v)]) (hu : ¬ ((u.toNat : Nat) : Int) = 10) (k0 : a.length = 0) :
    Calls Try.prog 79 #[.slice A n c] w fun e w' => e = .returned (.string ⟨([91, 94] ++ rangesT [(u, v)] ++ [93]).toArray⟩) ∧ Below w.heap.size w w' := by
  have H1 := Lib.hid (fun W (h : RgAt W (· < W.heap.size) A n rs) => ranges_any A n c rs false W h hn)
  have H2 := Lib.hid (fun W (h : RgAt W (· < W.heap.size) A n rs) => ranges_any A n c rs true W h hn)
  rw [ha] at H1
  rw [ho] at H2
  clear ha ho
  have _ := h4
  have _ := h5
  have _ := hal0
  go_enter Try.func79, Try.ntmps79
  go_wp2_with fail
  refine (H1.out _ hr).mono ?_
  rintro e w1 ⟨v1, rfl, hown1, b1⟩
  go_wp2_with fail
  have hr1 : RgAt w1 (· < w1.heap.size) A n rs := (hr.keep (w' := w1) fun b hb => b1.block b hb).mono fun b hb => Nat.lt_of_lt_of_le hb b1.size
  refine (H2.out _ hr1).mono ?_
  rintro e w2 ⟨v2, rfl, hown2, b2⟩
  obtain ⟨A1, c1, rfl, hm1, hra⟩ := rg_up hown1 b2
  obtain ⟨A2, c2, rfl, hm2, hro⟩ := rg_up hown2 (Below.refl _ w2)
  have hb := b1.trans (b2.mono b1.size)
  have HRA := Lib.hid hra
  have HRO := Lib.hid hro
  clear hr hr1 H1 H2 hown1 hown2 b1 b2 hra hro
  subst hox
  have hal : ¬ (a.length : Int) = 1 := by omega
  have hale : ((a.length : Int) == 1) = false := by simpa using hal
  go_wp2
  go_region
  have hba' : Below w2.heap.size w2 w2.drew := ⟨rfl, rfl, rfl, Nat.le_refl _, fun _ _ => rfl⟩
  obtain ⟨w3, hw3⟩ : ∃ w3, w3 = w2.drew := ⟨_, rfl⟩
  rw [← hw3] at hba' ⊢
  have hc3 := hb.trans (hba'.mono hb.size)
  have HRO3 := Lib.hid ((HRO.out.keep (w' := w3) fun b hb' => hba'.block b hb').mono (Y := (· < w3.heap.size)) fun b hb' => Nat.lt_of_lt_of_le hb' hba'.size)
  have HRA3 := Lib.hid ((HRA.out.keep (w' := w3) fun b hb' => hba'.block b hb').mono (Y := (· < w3.heap.size)) fun b hb' => Nat.lt_of_lt_of_le hb' hba'.size)
  clear hw3
  have k0' : (a.length : Int) = 0 := by omega
  obtain ⟨bbo, ooo, hAo, hXo, hco⟩ := HRO3.out.2 (by simp)
  obtain ⟨e0o, e1o⟩ := hco 0 _ rfl
  have hX2o : bbo < w3.heap.size := hXo
  simp only [Nat.zero_mul, Nat.add_zero] at e0o e1o
  subst hAo
  clear hco
  go_wp2
  go_region_held3 (fun W => W.cell? ⟨bbo, ooo, none⟩ = some (.int .u8 u.toNat) ∧ W.cell? ⟨bbo, ooo + 1, none⟩ = some (.int .u8 v.toNat)) (go_keep)
    ((go_at_call 104; refine (xone_any 10 _).mono ?_; rintro e w4 ⟨rfl, hbo⟩
      have g0o := (hbo.cell (p := ⟨bbo, ooo, none⟩) hX2o).trans e0o
      have g1o := (hbo.cell (p := ⟨bbo, ooo + 1, none⟩) hX2o).trans e1o))
  have hbo' : Below w3.heap.size w3 w4 := ⟨hbo.os, hbo.tape, hbo.output, hbo.size, hbo.block⟩
  have hc4 := hc3.trans (hbo'.mono hc3.size)
  have HRO4 := Lib.hid ((HRO3.out.keep (w' := w4) fun b hb' => hbo'.block b hb').mono (Y := (· < w4.heap.size)) fun b hb' => Nat.lt_of_lt_of_le hb' hbo'.size)
  have HRA4 := Lib.hid ((HRA3.out.keep (w' := w4) fun b hb' => hbo'.block b hb').mono (Y := (· < w4.heap.size)) fun b hb' => Nat.lt_of_lt_of_le hb' hbo'.size)
  go_wp2_with fail
  refine (rangesText_any _ _ _ _ _ HRO4.out (by first | omega | simp)).mono ?_
  rintro e w5 ⟨rfl, b5⟩
  have hq1 := rangesT_len [(u, v)]
  have hq2 : (rangesT [(u, v)]).length ≤ 2000 := by first | omega | (simp at hq1; omega)
  have hq3 : (⟨(rangesT [(u, v)]).toArray⟩ : ByteArray).size ≤ 2000 := hq2
  clear hq1
  go_wp2
  go_ret
  exact ⟨congrArg (fun s => Ending.returned (.string s)) (str94 _), hc4.trans (b5.mono hc4.size)⟩

set_option maxHeartbeats 1000000 in
set_option maxRecDepth 100000 in
theorem setText_C_f1a1 (A : Option Addr) (n c : Nat) (rs a o : List (UInt8 × UInt8)) (w : World) (hr : RgAt w (· < w.heap.size) A n rs) (hn : n ≤ maxLen) (ha : rangesL rs false = a) (ho : rangesL rs true = o) (h4 : a.length ≤ 256) (h5 : o.length ≤ 256) (hal0 : a.length ≠ 1) (u v : UInt8) (hox : o = [(u, v)]) (hu : ¬ ((u.toNat : Nat) : Int) = 10) (k0 : a.length ≠ 0) :
    Calls Try.prog 79 #[.slice A n c] w fun e w' => e = .returned (.string ⟨([91, 94] ++ rangesT [(u, v)] ++ [93]).toArray⟩) ∧ Below w.heap.size w w' := by
  have H1 := Lib.hid (fun W (h : RgAt W (· < W.heap.size) A n rs) => ranges_any A n c rs false W h hn)
  have H2 := Lib.hid (fun W (h : RgAt W (· < W.heap.size) A n rs) => ranges_any A n c rs true W h hn)
  rw [ha] at H1
  rw [ho] at H2
  clear ha ho
  have _ := h4
  have _ := h5
  have _ := hal0
  go_enter Try.func79, Try.ntmps79
  go_wp2_with fail
  refine (H1.out _ hr).mono ?_
  rintro e w1 ⟨v1, rfl, hown1, b1⟩
  go_wp2_with fail
  have hr1 : RgAt w1 (· < w1.heap.size) A n rs := (hr.keep (w' := w1) fun b hb => b1.block b hb).mono fun b hb => Nat.lt_of_lt_of_le hb b1.size
  refine (H2.out _ hr1).mono ?_
  rintro e w2 ⟨v2, rfl, hown2, b2⟩
  obtain ⟨A1, c1, rfl, hm1, hra⟩ := rg_up hown1 b2
  obtain ⟨A2, c2, rfl, hm2, hro⟩ := rg_up hown2 (Below.refl _ w2)
  have hb := b1.trans (b2.mono b1.size)
  have HRA := Lib.hid hra
  have HRO := Lib.hid hro
  clear hr hr1 H1 H2 hown1 hown2 b1 b2 hra hro
  subst hox
  have hal : ¬ (a.length : Int) = 1 := by omega
  have hale : ((a.length : Int) == 1) = false := by simpa using hal
  go_wp2
  go_region
  have hba' : Below w2.heap.size w2 w2.drew := ⟨rfl, rfl, rfl, Nat.le_refl _, fun _ _ => rfl⟩
  obtain ⟨w3, hw3⟩ : ∃ w3, w3 = w2.drew := ⟨_, rfl⟩
  rw [← hw3] at hba' ⊢
  have hc3 := hb.trans (hba'.mono hb.size)
  have HRO3 := Lib.hid ((HRO.out.keep (w' := w3) fun b hb' => hba'.block b hb').mono (Y := (· < w3.heap.size)) fun b hb' => Nat.lt_of_lt_of_le hb' hba'.size)
  have HRA3 := Lib.hid ((HRA.out.keep (w' := w3) fun b hb' => hba'.block b hb').mono (Y := (· < w3.heap.size)) fun b hb' => Nat.lt_of_lt_of_le hb' hba'.size)
  clear hw3
  have k0' : ¬ (a.length : Int) = 0 := by omega
  have k1 : (1 : Int) < (a.length : Int) := by omega
  obtain ⟨bbo, ooo, hAo, hXo, hco⟩ := HRO3.out.2 (by simp)
  obtain ⟨e0o, e1o⟩ := hco 0 _ rfl
  have hX2o : bbo < w3.heap.size := hXo
  simp only [Nat.zero_mul, Nat.add_zero] at e0o e1o
  subst hAo
  clear hco
  go_wp2
  go_region_held3 (fun W => W.cell? ⟨bbo, ooo, none⟩ = some (.int .u8 u.toNat) ∧ W.cell? ⟨bbo, ooo + 1, none⟩ = some (.int .u8 v.toNat)) (go_keep)
    ((go_at_call 104; refine (xone_any 10 _).mono ?_; rintro e w4 ⟨rfl, hbo⟩
      have g0o := (hbo.cell (p := ⟨bbo, ooo, none⟩) hX2o).trans e0o
      have g1o := (hbo.cell (p := ⟨bbo, ooo + 1, none⟩) hX2o).trans e1o))
  have hbo' : Below w3.heap.size w3 w4 := ⟨hbo.os, hbo.tape, hbo.output, hbo.size, hbo.block⟩
  have hc4 := hc3.trans (hbo'.mono hc3.size)
  have HRO4 := Lib.hid ((HRO3.out.keep (w' := w4) fun b hb' => hbo'.block b hb').mono (Y := (· < w4.heap.size)) fun b hb' => Nat.lt_of_lt_of_le hb' hbo'.size)
  have HRA4 := Lib.hid ((HRA3.out.keep (w' := w4) fun b hb' => hbo'.block b hb').mono (Y := (· < w4.heap.size)) fun b hb' => Nat.lt_of_lt_of_le hb' hbo'.size)
  go_wp2_with fail
  refine (rangesText_any _ _ _ _ _ HRO4.out (by first | omega | simp)).mono ?_
  rintro e w5 ⟨rfl, b5⟩
  have hq1 := rangesT_len [(u, v)]
  have hq2 : (rangesT [(u, v)]).length ≤ 2000 := by first | omega | (simp at hq1; omega)
  have hq3 : (⟨(rangesT [(u, v)]).toArray⟩ : ByteArray).size ≤ 2000 := hq2
  clear hq1
  go_wp2
  go_ret
  exact ⟨congrArg (fun s => Ending.returned (.string s)) (str94 _), hc4.trans (b5.mono hc4.size)⟩

set_option maxHeartbeats 1000000 in
set_option maxRecDepth 100000 in
theorem setText_C_f1b0 (A : Option Addr) (n c : Nat) (rs a o : List (UInt8 × UInt8)) (w : World) (hr : RgAt w (· < w.heap.size) A n rs) (hn : n ≤ maxLen) (ha : rangesL rs false = a) (ho : rangesL rs true = o) (h4 : a.length ≤ 256) (h5 : o.length ≤ 256) (hal0 : a.length ≠ 1) (v : UInt8) (hox : o = [(10, v)]) (hu : ¬ ((v.toNat : Nat) : Int) = 10) (k0 : a.length = 0) :
    Calls Try.prog 79 #[.slice A n c] w fun e w' => e = .returned (.string ⟨([91, 94] ++ rangesT [(10, v)] ++ [93]).toArray⟩) ∧ Below w.heap.size w w' := by
  have H1 := Lib.hid (fun W (h : RgAt W (· < W.heap.size) A n rs) => ranges_any A n c rs false W h hn)
  have H2 := Lib.hid (fun W (h : RgAt W (· < W.heap.size) A n rs) => ranges_any A n c rs true W h hn)
  rw [ha] at H1
  rw [ho] at H2
  clear ha ho
  have _ := h4
  have _ := h5
  have _ := hal0
  go_enter Try.func79, Try.ntmps79
  go_wp2_with fail
  refine (H1.out _ hr).mono ?_
  rintro e w1 ⟨v1, rfl, hown1, b1⟩
  go_wp2_with fail
  have hr1 : RgAt w1 (· < w1.heap.size) A n rs := (hr.keep (w' := w1) fun b hb => b1.block b hb).mono fun b hb => Nat.lt_of_lt_of_le hb b1.size
  refine (H2.out _ hr1).mono ?_
  rintro e w2 ⟨v2, rfl, hown2, b2⟩
  obtain ⟨A1, c1, rfl, hm1, hra⟩ := rg_up hown1 b2
  obtain ⟨A2, c2, rfl, hm2, hro⟩ := rg_up hown2 (Below.refl _ w2)
  have hb := b1.trans (b2.mono b1.size)
  have HRA := Lib.hid hra
  have HRO := Lib.hid hro
  clear hr hr1 H1 H2 hown1 hown2 b1 b2 hra hro
  subst hox
  have hal : ¬ (a.length : Int) = 1 := by omega
  have hale : ((a.length : Int) == 1) = false := by simpa using hal
  go_wp2
  go_region
  have hba' : Below w2.heap.size w2 w2.drew := ⟨rfl, rfl, rfl, Nat.le_refl _, fun _ _ => rfl⟩
  obtain ⟨w3, hw3⟩ : ∃ w3, w3 = w2.drew := ⟨_, rfl⟩
  rw [← hw3] at hba' ⊢
  have hc3 := hb.trans (hba'.mono hb.size)
  have HRO3 := Lib.hid ((HRO.out.keep (w' := w3) fun b hb' => hba'.block b hb').mono (Y := (· < w3.heap.size)) fun b hb' => Nat.lt_of_lt_of_le hb' hba'.size)
  have HRA3 := Lib.hid ((HRA.out.keep (w' := w3) fun b hb' => hba'.block b hb').mono (Y := (· < w3.heap.size)) fun b hb' => Nat.lt_of_lt_of_le hb' hba'.size)
  clear hw3
  have k0' : (a.length : Int) = 0 := by omega
  obtain ⟨bbo, ooo, hAo, hXo, hco⟩ := HRO3.out.2 (by simp)
  obtain ⟨e0o, e1o⟩ := hco 0 _ rfl
  have hX2o : bbo < w3.heap.size := hXo
  simp only [Nat.zero_mul, Nat.add_zero] at e0o e1o
  subst hAo
  clear hco
  go_wp2
  go_region_held3 (fun W => W.cell? ⟨bbo, ooo, none⟩ = some (.int .u8 (10 : UInt8).toNat) ∧ W.cell? ⟨bbo, ooo + 1, none⟩ = some (.int .u8 v.toNat)) (go_keep)
    ((go_at_call 104; refine (xone_any 10 _).mono ?_; rintro e w4 ⟨rfl, hbo⟩
      have g0o := (hbo.cell (p := ⟨bbo, ooo, none⟩) hX2o).trans e0o
      have g1o := (hbo.cell (p := ⟨bbo, ooo + 1, none⟩) hX2o).trans e1o))
  have hbo' : Below w3.heap.size w3 w4 := ⟨hbo.os, hbo.tape, hbo.output, hbo.size, hbo.block⟩
  have hc4 := hc3.trans (hbo'.mono hc3.size)
  have HRO4 := Lib.hid ((HRO3.out.keep (w' := w4) fun b hb' => hbo'.block b hb').mono (Y := (· < w4.heap.size)) fun b hb' => Nat.lt_of_lt_of_le hb' hbo'.size)
  have HRA4 := Lib.hid ((HRA3.out.keep (w' := w4) fun b hb' => hbo'.block b hb').mono (Y := (· < w4.heap.size)) fun b hb' => Nat.lt_of_lt_of_le hb' hbo'.size)
  go_wp2_with fail
  refine (rangesText_any _ _ _ _ _ HRO4.out (by first | omega | simp)).mono ?_
  rintro e w5 ⟨rfl, b5⟩
  have hq1 := rangesT_len [(10, v)]
  have hq2 : (rangesT [(10, v)]).length ≤ 2000 := by first | omega | (simp at hq1; omega)
  have hq3 : (⟨(rangesT [(10, v)]).toArray⟩ : ByteArray).size ≤ 2000 := hq2
  clear hq1
  go_wp2
  go_ret
  exact ⟨congrArg (fun s => Ending.returned (.string s)) (str94 _), hc4.trans (b5.mono hc4.size)⟩

set_option maxHeartbeats 1000000 in
set_option maxRecDepth 100000 in
theorem setText_C_f1b1 (A : Option Addr) (n c : Nat) (rs a o : List (UInt8 × UInt8)) (w : World) (hr : RgAt w (· < w.heap.size) A n rs) (hn : n ≤ maxLen) (ha : rangesL rs false = a) (ho : rangesL rs true = o) (h4 : a.length ≤ 256) (h5 : o.length ≤ 256) (hal0 : a.length ≠ 1) (v : UInt8) (hox : o = [(10, v)]) (hu : ¬ ((v.toNat : Nat) : Int) = 10) (k0 : a.length ≠ 0) :
    Calls Try.prog 79 #[.slice A n c] w fun e w' => e = .returned (.string ⟨([91, 94] ++ rangesT [(10, v)] ++ [93]).toArray⟩) ∧ Below w.heap.size w w' := by
  have H1 := Lib.hid (fun W (h : RgAt W (· < W.heap.size) A n rs) => ranges_any A n c rs false W h hn)
  have H2 := Lib.hid (fun W (h : RgAt W (· < W.heap.size) A n rs) => ranges_any A n c rs true W h hn)
  rw [ha] at H1
  rw [ho] at H2
  clear ha ho
  have _ := h4
  have _ := h5
  have _ := hal0
  go_enter Try.func79, Try.ntmps79
  go_wp2_with fail
  refine (H1.out _ hr).mono ?_
  rintro e w1 ⟨v1, rfl, hown1, b1⟩
  go_wp2_with fail
  have hr1 : RgAt w1 (· < w1.heap.size) A n rs := (hr.keep (w' := w1) fun b hb => b1.block b hb).mono fun b hb => Nat.lt_of_lt_of_le hb b1.size
  refine (H2.out _ hr1).mono ?_
  rintro e w2 ⟨v2, rfl, hown2, b2⟩
  obtain ⟨A1, c1, rfl, hm1, hra⟩ := rg_up hown1 b2
  obtain ⟨A2, c2, rfl, hm2, hro⟩ := rg_up hown2 (Below.refl _ w2)
  have hb := b1.trans (b2.mono b1.size)
  have HRA := Lib.hid hra
  have HRO := Lib.hid hro
  clear hr hr1 H1 H2 hown1 hown2 b1 b2 hra hro
  subst hox
  have hal : ¬ (a.length : Int) = 1 := by omega
  have hale : ((a.length : Int) == 1) = false := by simpa using hal
  go_wp2
  go_region
  have hba' : Below w2.heap.size w2 w2.drew := ⟨rfl, rfl, rfl, Nat.le_refl _, fun _ _ => rfl⟩
  obtain ⟨w3, hw3⟩ : ∃ w3, w3 = w2.drew := ⟨_, rfl⟩
  rw [← hw3] at hba' ⊢
  have hc3 := hb.trans (hba'.mono hb.size)
  have HRO3 := Lib.hid ((HRO.out.keep (w' := w3) fun b hb' => hba'.block b hb').mono (Y := (· < w3.heap.size)) fun b hb' => Nat.lt_of_lt_of_le hb' hba'.size)
  have HRA3 := Lib.hid ((HRA.out.keep (w' := w3) fun b hb' => hba'.block b hb').mono (Y := (· < w3.heap.size)) fun b hb' => Nat.lt_of_lt_of_le hb' hba'.size)
  clear hw3
  have k0' : ¬ (a.length : Int) = 0 := by omega
  have k1 : (1 : Int) < (a.length : Int) := by omega
  obtain ⟨bbo, ooo, hAo, hXo, hco⟩ := HRO3.out.2 (by simp)
  obtain ⟨e0o, e1o⟩ := hco 0 _ rfl
  have hX2o : bbo < w3.heap.size := hXo
  simp only [Nat.zero_mul, Nat.add_zero] at e0o e1o
  subst hAo
  clear hco
  go_wp2
  go_region_held3 (fun W => W.cell? ⟨bbo, ooo, none⟩ = some (.int .u8 (10 : UInt8).toNat) ∧ W.cell? ⟨bbo, ooo + 1, none⟩ = some (.int .u8 v.toNat)) (go_keep)
    ((go_at_call 104; refine (xone_any 10 _).mono ?_; rintro e w4 ⟨rfl, hbo⟩
      have g0o := (hbo.cell (p := ⟨bbo, ooo, none⟩) hX2o).trans e0o
      have g1o := (hbo.cell (p := ⟨bbo, ooo + 1, none⟩) hX2o).trans e1o))
  have hbo' : Below w3.heap.size w3 w4 := ⟨hbo.os, hbo.tape, hbo.output, hbo.size, hbo.block⟩
  have hc4 := hc3.trans (hbo'.mono hc3.size)
  have HRO4 := Lib.hid ((HRO3.out.keep (w' := w4) fun b hb' => hbo'.block b hb').mono (Y := (· < w4.heap.size)) fun b hb' => Nat.lt_of_lt_of_le hb' hbo'.size)
  have HRA4 := Lib.hid ((HRA3.out.keep (w' := w4) fun b hb' => hbo'.block b hb').mono (Y := (· < w4.heap.size)) fun b hb' => Nat.lt_of_lt_of_le hb' hbo'.size)
  go_wp2_with fail
  refine (rangesText_any _ _ _ _ _ HRO4.out (by first | omega | simp)).mono ?_
  rintro e w5 ⟨rfl, b5⟩
  have hq1 := rangesT_len [(10, v)]
  have hq2 : (rangesT [(10, v)]).length ≤ 2000 := by first | omega | (simp at hq1; omega)
  have hq3 : (⟨(rangesT [(10, v)]).toArray⟩ : ByteArray).size ≤ 2000 := hq2
  clear hq1
  go_wp2
  go_ret
  exact ⟨congrArg (fun s => Ending.returned (.string s)) (str94 _), hc4.trans (b5.mono hc4.size)⟩

set_option maxHeartbeats 1000000 in
set_option maxRecDepth 100000 in
theorem setText_C_f20 (A : Option Addr) (n c : Nat) (rs a o : List (UInt8 × UInt8)) (w : World) (hr : RgAt w (· < w.heap.size) A n rs) (hn : n ≤ maxLen) (ha : rangesL rs false = a) (ho : rangesL rs true = o) (h4 : a.length ≤ 256) (h5 : o.length ≤ 256) (hal0 : a.length ≠ 1) (hol0 : o.length ≠ 1) (k0 : a.length = 0) :
    Calls Try.prog 79 #[.slice A n c] w fun e w' => e = .returned (.string ⟨([91, 94] ++ rangesT o ++ [93]).toArray⟩) ∧ Below w.heap.size w w' := by
  have H1 := Lib.hid (fun W (h : RgAt W (· < W.heap.size) A n rs) => ranges_any A n c rs false W h hn)
  have H2 := Lib.hid (fun W (h : RgAt W (· < W.heap.size) A n rs) => ranges_any A n c rs true W h hn)
  rw [ha] at H1
  rw [ho] at H2
  clear ha ho
  have _ := h4
  have _ := h5
  have _ := hal0
  have _ := hol0
  go_enter Try.func79, Try.ntmps79
  go_wp2_with fail
  refine (H1.out _ hr).mono ?_
  rintro e w1 ⟨v1, rfl, hown1, b1⟩
  go_wp2_with fail
  have hr1 : RgAt w1 (· < w1.heap.size) A n rs := (hr.keep (w' := w1) fun b hb => b1.block b hb).mono fun b hb => Nat.lt_of_lt_of_le hb b1.size
  refine (H2.out _ hr1).mono ?_
  rintro e w2 ⟨v2, rfl, hown2, b2⟩
  obtain ⟨A1, c1, rfl, hm1, hra⟩ := rg_up hown1 b2
  obtain ⟨A2, c2, rfl, hm2, hro⟩ := rg_up hown2 (Below.refl _ w2)
  have hb := b1.trans (b2.mono b1.size)
  have HRA := Lib.hid hra
  have HRO := Lib.hid hro
  clear hr hr1 H1 H2 hown1 hown2 b1 b2 hra hro
  have hal : ¬ (a.length : Int) = 1 := by omega
  have hale : ((a.length : Int) == 1) = false := by simpa using hal
  go_wp2
  go_region
  have hba' : Below w2.heap.size w2 w2.drew := ⟨rfl, rfl, rfl, Nat.le_refl _, fun _ _ => rfl⟩
  obtain ⟨w3, hw3⟩ : ∃ w3, w3 = w2.drew := ⟨_, rfl⟩
  rw [← hw3] at hba' ⊢
  have hc3 := hb.trans (hba'.mono hb.size)
  have HRO3 := Lib.hid ((HRO.out.keep (w' := w3) fun b hb' => hba'.block b hb').mono (Y := (· < w3.heap.size)) fun b hb' => Nat.lt_of_lt_of_le hb' hba'.size)
  have HRA3 := Lib.hid ((HRA.out.keep (w' := w3) fun b hb' => hba'.block b hb').mono (Y := (· < w3.heap.size)) fun b hb' => Nat.lt_of_lt_of_le hb' hba'.size)
  clear hw3
  have k0' : (a.length : Int) = 0 := by omega
  have hol : ¬ (o.length : Int) = 1 := by omega
  have hole : ((o.length : Int) == 1) = false := by simpa using hol
  go_wp2
  go_region
  have hbo' : Below w3.heap.size w3 w3.drew := ⟨rfl, rfl, rfl, Nat.le_refl _, fun _ _ => rfl⟩
  obtain ⟨w4, hw4⟩ : ∃ w4, w4 = w3.drew := ⟨_, rfl⟩
  rw [← hw4] at hbo' ⊢
  have hc4 := hc3.trans (hbo'.mono hc3.size)
  clear hw4
  have HRO4 := Lib.hid ((HRO3.out.keep (w' := w4) fun b hb' => hbo'.block b hb').mono (Y := (· < w4.heap.size)) fun b hb' => Nat.lt_of_lt_of_le hb' hbo'.size)
  have HRA4 := Lib.hid ((HRA3.out.keep (w' := w4) fun b hb' => hbo'.block b hb').mono (Y := (· < w4.heap.size)) fun b hb' => Nat.lt_of_lt_of_le hb' hbo'.size)
  go_wp2_with fail
  refine (rangesText_any _ _ _ _ _ HRO4.out (by first | omega | simp)).mono ?_
  rintro e w5 ⟨rfl, b5⟩
  have hq1 := rangesT_len o
  have hq2 : (rangesT o).length ≤ 2000 := by first | omega | (simp at hq1; omega)
  have hq3 : (⟨(rangesT o).toArray⟩ : ByteArray).size ≤ 2000 := hq2
  clear hq1
  go_wp2
  go_ret
  exact ⟨congrArg (fun s => Ending.returned (.string s)) (str94 _), hc4.trans (b5.mono hc4.size)⟩

set_option maxHeartbeats 1000000 in
set_option maxRecDepth 100000 in
theorem setText_C_f21 (A : Option Addr) (n c : Nat) (rs a o : List (UInt8 × UInt8)) (w : World) (hr : RgAt w (· < w.heap.size) A n rs) (hn : n ≤ maxLen) (ha : rangesL rs false = a) (ho : rangesL rs true = o) (h4 : a.length ≤ 256) (h5 : o.length ≤ 256) (hal0 : a.length ≠ 1) (hol0 : o.length ≠ 1) (k0 : a.length ≠ 0) (k1 : 0 < o.length) (k2 : o.length < a.length) :
    Calls Try.prog 79 #[.slice A n c] w fun e w' => e = .returned (.string ⟨([91, 94] ++ rangesT o ++ [93]).toArray⟩) ∧ Below w.heap.size w w' := by
  have H1 := Lib.hid (fun W (h : RgAt W (· < W.heap.size) A n rs) => ranges_any A n c rs false W h hn)
  have H2 := Lib.hid (fun W (h : RgAt W (· < W.heap.size) A n rs) => ranges_any A n c rs true W h hn)
  rw [ha] at H1
  rw [ho] at H2
  clear ha ho
  have _ := h4
  have _ := h5
  have _ := hal0
  have _ := hol0
  go_enter Try.func79, Try.ntmps79
  go_wp2_with fail
  refine (H1.out _ hr).mono ?_
  rintro e w1 ⟨v1, rfl, hown1, b1⟩
  go_wp2_with fail
  have hr1 : RgAt w1 (· < w1.heap.size) A n rs := (hr.keep (w' := w1) fun b hb => b1.block b hb).mono fun b hb => Nat.lt_of_lt_of_le hb b1.size
  refine (H2.out _ hr1).mono ?_
  rintro e w2 ⟨v2, rfl, hown2, b2⟩
  obtain ⟨A1, c1, rfl, hm1, hra⟩ := rg_up hown1 b2
  obtain ⟨A2, c2, rfl, hm2, hro⟩ := rg_up hown2 (Below.refl _ w2)
  have hb := b1.trans (b2.mono b1.size)
  have HRA := Lib.hid hra
  have HRO := Lib.hid hro
  clear hr hr1 H1 H2 hown1 hown2 b1 b2 hra hro
  have hal : ¬ (a.length : Int) = 1 := by omega
  have hale : ((a.length : Int) == 1) = false := by simpa using hal
  go_wp2
  go_region
  have hba' : Below w2.heap.size w2 w2.drew := ⟨rfl, rfl, rfl, Nat.le_refl _, fun _ _ => rfl⟩
  obtain ⟨w3, hw3⟩ : ∃ w3, w3 = w2.drew := ⟨_, rfl⟩
  rw [← hw3] at hba' ⊢
  have hc3 := hb.trans (hba'.mono hb.size)
  have HRO3 := Lib.hid ((HRO.out.keep (w' := w3) fun b hb' => hba'.block b hb').mono (Y := (· < w3.heap.size)) fun b hb' => Nat.lt_of_lt_of_le hb' hba'.size)
  have HRA3 := Lib.hid ((HRA.out.keep (w' := w3) fun b hb' => hba'.block b hb').mono (Y := (· < w3.heap.size)) fun b hb' => Nat.lt_of_lt_of_le hb' hba'.size)
  clear hw3
  have k0' : ¬ (a.length : Int) = 0 := by omega
  have k1' : (0 : Int) < (o.length : Int) := by omega
  have k2' : (o.length : Int) < (a.length : Int) := by omega
  have hol : ¬ (o.length : Int) = 1 := by omega
  have hole : ((o.length : Int) == 1) = false := by simpa using hol
  go_wp2
  go_region
  have hbo' : Below w3.heap.size w3 w3.drew := ⟨rfl, rfl, rfl, Nat.le_refl _, fun _ _ => rfl⟩
  obtain ⟨w4, hw4⟩ : ∃ w4, w4 = w3.drew := ⟨_, rfl⟩
  rw [← hw4] at hbo' ⊢
  have hc4 := hc3.trans (hbo'.mono hc3.size)
  clear hw4
  have HRO4 := Lib.hid ((HRO3.out.keep (w' := w4) fun b hb' => hbo'.block b hb').mono (Y := (· < w4.heap.size)) fun b hb' => Nat.lt_of_lt_of_le hb' hbo'.size)
  have HRA4 := Lib.hid ((HRA3.out.keep (w' := w4) fun b hb' => hbo'.block b hb').mono (Y := (· < w4.heap.size)) fun b hb' => Nat.lt_of_lt_of_le hb' hbo'.size)
  go_wp2_with fail
  refine (rangesText_any _ _ _ _ _ HRO4.out (by first | omega | simp)).mono ?_
  rintro e w5 ⟨rfl, b5⟩
  have hq1 := rangesT_len o
  have hq2 : (rangesT o).length ≤ 2000 := by first | omega | (simp at hq1; omega)
  have hq3 : (⟨(rangesT o).toArray⟩ : ByteArray).size ≤ 2000 := hq2
  clear hq1
  go_wp2
  go_ret
  exact ⟨congrArg (fun s => Ending.returned (.string s)) (str94 _), hc4.trans (b5.mono hc4.size)⟩

set_option maxHeartbeats 1000000 in
set_option maxRecDepth 100000 in
theorem setText_C_f22 (A : Option Addr) (n c : Nat) (rs a o : List (UInt8 × UInt8)) (w : World) (hr : RgAt w (· < w.heap.size) A n rs) (hn : n ≤ maxLen) (ha : rangesL rs false = a) (ho : rangesL rs true = o) (h4 : a.length ≤ 256) (h5 : o.length ≤ 256) (hal0 : a.length ≠ 1) (hol0 : o.length ≠ 1) (k0 : a.length ≠ 0) (k1 : 0 < o.length) (k2 : ¬ o.length < a.length) :
    Calls Try.prog 79 #[.slice A n c] w fun e w' => e = .returned (.string ⟨([91] ++ rangesT a ++ [93]).toArray⟩) ∧ Below w.heap.size w w' := by
  have H1 := Lib.hid (fun W (h : RgAt W (· < W.heap.size) A n rs) => ranges_any A n c rs false W h hn)
  have H2 := Lib.hid (fun W (h : RgAt W (· < W.heap.size) A n rs) => ranges_any A n c rs true W h hn)
  rw [ha] at H1
  rw [ho] at H2
  clear ha ho
  have _ := h4
  have _ := h5
  have _ := hal0
  have _ := hol0
  go_enter Try.func79, Try.ntmps79
  go_wp2_with fail
  refine (H1.out _ hr).mono ?_
  rintro e w1 ⟨v1, rfl, hown1, b1⟩
  go_wp2_with fail
  have hr1 : RgAt w1 (· < w1.heap.size) A n rs := (hr.keep (w' := w1) fun b hb => b1.block b hb).mono fun b hb => Nat.lt_of_lt_of_le hb b1.size
  refine (H2.out _ hr1).mono ?_
  rintro e w2 ⟨v2, rfl, hown2, b2⟩
  obtain ⟨A1, c1, rfl, hm1, hra⟩ := rg_up hown1 b2
  obtain ⟨A2, c2, rfl, hm2, hro⟩ := rg_up hown2 (Below.refl _ w2)
  have hb := b1.trans (b2.mono b1.size)
  have HRA := Lib.hid hra
  have HRO := Lib.hid hro
  clear hr hr1 H1 H2 hown1 hown2 b1 b2 hra hro
  have hal : ¬ (a.length : Int) = 1 := by omega
  have hale : ((a.length : Int) == 1) = false := by simpa using hal
  go_wp2
  go_region
  have hba' : Below w2.heap.size w2 w2.drew := ⟨rfl, rfl, rfl, Nat.le_refl _, fun _ _ => rfl⟩
  obtain ⟨w3, hw3⟩ : ∃ w3, w3 = w2.drew := ⟨_, rfl⟩
  rw [← hw3] at hba' ⊢
  have hc3 := hb.trans (hba'.mono hb.size)
  have HRO3 := Lib.hid ((HRO.out.keep (w' := w3) fun b hb' => hba'.block b hb').mono (Y := (· < w3.heap.size)) fun b hb' => Nat.lt_of_lt_of_le hb' hba'.size)
  have HRA3 := Lib.hid ((HRA.out.keep (w' := w3) fun b hb' => hba'.block b hb').mono (Y := (· < w3.heap.size)) fun b hb' => Nat.lt_of_lt_of_le hb' hba'.size)
  clear hw3
  have k0' : ¬ (a.length : Int) = 0 := by omega
  have k1' : (0 : Int) < (o.length : Int) := by omega
  have k2' : ¬ (o.length : Int) < (a.length : Int) := by omega
  have hol : ¬ (o.length : Int) = 1 := by omega
  have hole : ((o.length : Int) == 1) = false := by simpa using hol
  go_wp2
  go_region
  have hbo' : Below w3.heap.size w3 w3.drew := ⟨rfl, rfl, rfl, Nat.le_refl _, fun _ _ => rfl⟩
  obtain ⟨w4, hw4⟩ : ∃ w4, w4 = w3.drew := ⟨_, rfl⟩
  rw [← hw4] at hbo' ⊢
  have hc4 := hc3.trans (hbo'.mono hc3.size)
  clear hw4
  have HRO4 := Lib.hid ((HRO3.out.keep (w' := w4) fun b hb' => hbo'.block b hb').mono (Y := (· < w4.heap.size)) fun b hb' => Nat.lt_of_lt_of_le hb' hbo'.size)
  have HRA4 := Lib.hid ((HRA3.out.keep (w' := w4) fun b hb' => hbo'.block b hb').mono (Y := (· < w4.heap.size)) fun b hb' => Nat.lt_of_lt_of_le hb' hbo'.size)
  go_wp2_with fail
  refine (rangesText_any _ _ _ _ _ HRA4.out (by first | omega | simp)).mono ?_
  rintro e w5 ⟨rfl, b5⟩
  have hq1 := rangesT_len a
  have hq2 : (rangesT a).length ≤ 2000 := by first | omega | (simp at hq1; omega)
  have hq3 : (⟨(rangesT a).toArray⟩ : ByteArray).size ≤ 2000 := hq2
  clear hq1
  go_wp2
  go_ret
  exact ⟨congrArg (fun s => Ending.returned (.string s)) (str91 _), hc4.trans (b5.mono hc4.size)⟩

set_option maxHeartbeats 1000000 in
set_option maxRecDepth 100000 in
theorem setText_C_f23 (A : Option Addr) (n c : Nat) (rs a o : List (UInt8 × UInt8)) (w : World) (hr : RgAt w (· < w.heap.size) A n rs) (hn : n ≤ maxLen) (ha : rangesL rs false = a) (ho : rangesL rs true = o) (h4 : a.length ≤ 256) (h5 : o.length ≤ 256) (hal0 : a.length ≠ 1) (hol0 : o.length ≠ 1) (k0 : a.length ≠ 0) (k1 : o.length = 0) :
    Calls Try.prog 79 #[.slice A n c] w fun e w' => e = .returned (.string ⟨([91] ++ rangesT a ++ [93]).toArray⟩) ∧ Below w.heap.size w w' := by
  have H1 := Lib.hid (fun W (h : RgAt W (· < W.heap.size) A n rs) => ranges_any A n c rs false W h hn)
  have H2 := Lib.hid (fun W (h : RgAt W (· < W.heap.size) A n rs) => ranges_any A n c rs true W h hn)
  rw [ha] at H1
  rw [ho] at H2
  clear ha ho
  have _ := h4
  have _ := h5
  have _ := hal0
  have _ := hol0
  go_enter Try.func79, Try.ntmps79
  go_wp2_with fail
  refine (H1.out _ hr).mono ?_
  rintro e w1 ⟨v1, rfl, hown1, b1⟩
  go_wp2_with fail
  have hr1 : RgAt w1 (· < w1.heap.size) A n rs := (hr.keep (w' := w1) fun b hb => b1.block b hb).mono fun b hb => Nat.lt_of_lt_of_le hb b1.size
  refine (H2.out _ hr1).mono ?_
  rintro e w2 ⟨v2, rfl, hown2, b2⟩
  obtain ⟨A1, c1, rfl, hm1, hra⟩ := rg_up hown1 b2
  obtain ⟨A2, c2, rfl, hm2, hro⟩ := rg_up hown2 (Below.refl _ w2)
  have hb := b1.trans (b2.mono b1.size)
  have HRA := Lib.hid hra
  have HRO := Lib.hid hro
  clear hr hr1 H1 H2 hown1 hown2 b1 b2 hra hro
  have hal : ¬ (a.length : Int) = 1 := by omega
  have hale : ((a.length : Int) == 1) = false := by simpa using hal
  go_wp2
  go_region
  have hba' : Below w2.heap.size w2 w2.drew := ⟨rfl, rfl, rfl, Nat.le_refl _, fun _ _ => rfl⟩
  obtain ⟨w3, hw3⟩ : ∃ w3, w3 = w2.drew := ⟨_, rfl⟩
  rw [← hw3] at hba' ⊢
  have hc3 := hb.trans (hba'.mono hb.size)
  have HRO3 := Lib.hid ((HRO.out.keep (w' := w3) fun b hb' => hba'.block b hb').mono (Y := (· < w3.heap.size)) fun b hb' => Nat.lt_of_lt_of_le hb' hba'.size)
  have HRA3 := Lib.hid ((HRA.out.keep (w' := w3) fun b hb' => hba'.block b hb').mono (Y := (· < w3.heap.size)) fun b hb' => Nat.lt_of_lt_of_le hb' hba'.size)
  clear hw3
  have k0' : ¬ (a.length : Int) = 0 := by omega
  have k1' : (o.length : Int) = 0 := by omega
  have hol : ¬ (o.length : Int) = 1 := by omega
  have hole : ((o.length : Int) == 1) = false := by simpa using hol
  go_wp2
  go_region
  have hbo' : Below w3.heap.size w3 w3.drew := ⟨rfl, rfl, rfl, Nat.le_refl _, fun _ _ => rfl⟩
  obtain ⟨w4, hw4⟩ : ∃ w4, w4 = w3.drew := ⟨_, rfl⟩
  rw [← hw4] at hbo' ⊢
  have hc4 := hc3.trans (hbo'.mono hc3.size)
  clear hw4
  have HRO4 := Lib.hid ((HRO3.out.keep (w' := w4) fun b hb' => hbo'.block b hb').mono (Y := (· < w4.heap.size)) fun b hb' => Nat.lt_of_lt_of_le hb' hbo'.size)
  have HRA4 := Lib.hid ((HRA3.out.keep (w' := w4) fun b hb' => hbo'.block b hb').mono (Y := (· < w4.heap.size)) fun b hb' => Nat.lt_of_lt_of_le hb' hbo'.size)
  go_wp2_with fail
  refine (rangesText_any _ _ _ _ _ HRA4.out (by first | omega | simp)).mono ?_
  rintro e w5 ⟨rfl, b5⟩
  have hq1 := rangesT_len a
  have hq2 : (rangesT a).length ≤ 2000 := by first | omega | (simp at hq1; omega)
  have hq3 : (⟨(rangesT a).toArray⟩ : ByteArray).size ≤ 2000 := hq2
  clear hq1
  go_wp2
  go_ret
  exact ⟨congrArg (fun s => Ending.returned (.string s)) (str91 _), hc4.trans (b5.mono hc4.size)⟩

theorem setText_any (A : Option Addr) (n c : Nat) (rs : List (UInt8 × UInt8)) (w : World) (hr : RgAt w (· < w.heap.size) A n rs) (hn : n ≤ maxLen) :
    Calls Try.prog 79 #[.slice A n c] w fun e w' => e = .returned (.string ⟨(setTx rs).toArray⟩) ∧ Below w.heap.size w w' := by
  have h4 : (rangesL rs false).length ≤ 256 := rgTo_length _ _
  have h5 : (rangesL rs true).length ≤ 256 := rgTo_length _ _
  unfold setTx
  obtain ⟨a, ha⟩ : ∃ a, rangesL rs false = a := ⟨_, rfl⟩
  obtain ⟨o, ho⟩ : ∃ o, rangesL rs true = o := ⟨_, rfl⟩
  rw [ha] at h4
  rw [ho] at h5
  rw [ha, ho]
  have nat10 : ∀ u : UInt8, u ≠ 10 → ¬ ((u.toNat : Nat) : Int) = 10 := fun u hu e => hu (UInt8.toNat_inj.1 (by show u.toNat = 10; omega))
  have tod : o.length ≠ 1 ∨ o = [(10, 10)] ∨ (∃ u v, o = [(u, v)] ∧ u ≠ 10) ∨ (∃ v, o = [(10, v)] ∧ v ≠ 10) := by
    match o with
    | [] => exact .inl (by simp)
    | [(u, v)] =>
      by_cases hu : u = 10
      · by_cases hv : v = 10
        · exact .inr (.inl (by rw [hu, hv]))
        · exact .inr (.inr (.inr ⟨v, by rw [hu], hv⟩))
      · exact .inr (.inr (.inl ⟨u, v, rfl, hu⟩))
    | _ :: _ :: _ => exact .inl (by simp)
  by_cases h1 : a.length = 1
  · obtain ⟨x, y, rfl⟩ : ∃ x y, a = [(x, y)] := by
      match a, h1 with
      | [(x, y)], _ => exact ⟨x, y, rfl⟩
    by_cases hyx : y = x
    · subst hyx
      have e : setT2 [(y, y)] o = letterT sgs y := by simp [setT2, oneR]
      rw [e]
      exact setText_one A n c rs _ o w hr hn ha ho h4 h5 y rfl
    · have hyx' : ¬ ((y.toNat : Nat) : Int) = ((x.toNat : Nat) : Int) := fun e => hyx (UInt8.toNat_inj.1 (by omega))
      rcases tod with h | rfl | ⟨u, v, rfl, hu⟩ | ⟨v, rfl, hv⟩
      · have hne : o ≠ [(10, 10)] := by rintro rfl; exact h rfl
        have e : setT2 [(x, y)] o = [91] ++ rangesT [(x, y)] ++ [93] := by
          unfold setT2
          rw [if_neg (by simp [oneR, hyx]), if_neg hne, if_neg (by simp only [Bool.or_eq_true, Bool.and_eq_true, decide_eq_true_eq, List.length_cons, List.length_nil]; omega)]
        rw [e]
        by_cases k1 : o.length = 0
        · exact setText_B_f20 A n c rs _ o w hr hn ha ho h4 h5 x y rfl hyx' h k1
        · exact setText_B_f21 A n c rs _ o w hr hn ha ho h4 h5 x y rfl hyx' h (by omega)
      · have e : setT2 [(x, y)] [(10, 10)] = [46] := by simp [setT2, oneR, hyx]
        rw [e]
        exact setText_B_dot A n c rs _ _ w hr hn ha ho h4 h5 x y rfl hyx' rfl
      · have e : setT2 [(x, y)] [(u, v)] = [91] ++ rangesT [(x, y)] ++ [93] := by simp [setT2, oneR, hyx, hu]
        rw [e]
        exact setText_B_f1a A n c rs _ _ w hr hn ha ho h4 h5 x y rfl hyx' u v rfl (nat10 u hu)
      · have e : setT2 [(x, y)] [(10, v)] = [91] ++ rangesT [(x, y)] ++ [93] := by simp [setT2, oneR, hyx, hv]
        rw [e]
        exact setText_B_f1b A n c rs _ _ w hr hn ha ho h4 h5 x y rfl hyx' v rfl (nat10 v hv)
  · have hone : oneR a = false := by
      match a, h1 with
      | [], _ => rfl
      | [_], h => exact absurd rfl h
      | _ :: _ :: _, _ => rfl
    rcases tod with h | rfl | ⟨u, v, rfl, hu⟩ | ⟨v, rfl, hv⟩
    · have hne : o ≠ [(10, 10)] := by rintro rfl; exact h rfl
      by_cases k0 : a.length = 0
      · have e : setT2 a o = [91, 94] ++ rangesT o ++ [93] := by simp [setT2, hone, hne, k0]
        rw [e]
        exact setText_C_f20 A n c rs _ _ w hr hn ha ho h4 h5 h1 h k0
      · by_cases k1 : o.length = 0
        · have e : setT2 a o = [91] ++ rangesT a ++ [93] := by simp [setT2, hone, hne, k0, k1]
          rw [e]
          exact setText_C_f23 A n c rs _ _ w hr hn ha ho h4 h5 h1 h k0 k1
        · have k1' : 0 < o.length := by omega
          by_cases k2 : o.length < a.length
          · have e : setT2 a o = [91, 94] ++ rangesT o ++ [93] := by simp [setT2, hone, hne, k0, k1', k2]
            rw [e]
            exact setText_C_f21 A n c rs _ _ w hr hn ha ho h4 h5 h1 h k0 k1' k2
          · have e : setT2 a o = [91] ++ rangesT a ++ [93] := by simp [setT2, hone, hne, k0, k2]
            rw [e]
            exact setText_C_f22 A n c rs _ _ w hr hn ha ho h4 h5 h1 h k0 k1' k2
    · have e : setT2 a [(10, 10)] = [46] := by simp [setT2, hone]
      rw [e]
      exact setText_C_dot A n c rs _ _ w hr hn ha ho h4 h5 h1 rfl
    · have e : setT2 a [(u, v)] = [91, 94] ++ rangesT [(u, v)] ++ [93] := by
        unfold setT2
        rw [if_neg (by rw [hone]; simp), if_neg (by simp [hu]), if_pos (by simp only [Bool.or_eq_true, Bool.and_eq_true, decide_eq_true_eq, List.length_cons, List.length_nil]; omega)]
      rw [e]
      by_cases k0 : a.length = 0
      · exact setText_C_f1a0 A n c rs _ _ w hr hn ha ho h4 h5 h1 u v rfl (nat10 u hu) k0
      · exact setText_C_f1a1 A n c rs _ _ w hr hn ha ho h4 h5 h1 u v rfl (nat10 u hu) k0
    · have e : setT2 a [(10, v)] = [91, 94] ++ rangesT [(10, v)] ++ [93] := by
        unfold setT2
        rw [if_neg (by rw [hone]; simp), if_neg (by simp [hv]), if_pos (by simp only [Bool.or_eq_true, Bool.and_eq_true, decide_eq_true_eq, List.length_cons, List.length_nil]; omega)]
      rw [e]
      by_cases k0 : a.length = 0
      · exact setText_C_f1b0 A n c rs _ _ w hr hn ha ho h4 h5 h1 v rfl (nat10 v hv) k0
      · exact setText_C_f1b1 A n c rs _ _ w hr hn ha ho h4 h5 h1 v rfl (nat10 v hv) k0
end Go.Proofs.Ytponepcgokfiiaa
namespace Go.Proofs.Ytponepcgokfiiaa
open Go.RowKit

/-- The cells of open nodes. -/
def FrAt (w : World) (X : Nat → Prop) (d : Nat) (f : Fr) (cs : List Value) : Prop :=
  ∃ A n c, cs = [.int .i64 f.kind, .slice A n c, .int .i64 (f.next : Nat), .string ⟨f.behind.toArray⟩] ∧ n ≤ maxLen ∧ n ≤ c ∧ KdAt w X d A n f.kids ∧ f.next ≤ f.kids.length
def FrsAt (w : World) (X : Nat → Prop) (d : Nat) (fs : List Fr) (cells : List Value) : Prop :=
  cells.length = fs.length * 4 ∧ ∀ i f, fs[i]? = some f → ∃ v0 v1 v2 v3, cells[i * 4]? = some v0 ∧ cells[i * 4 + 1]? = some v1 ∧ cells[i * 4 + 2]? = some v2 ∧ cells[i * 4 + 3]? = some v3 ∧ FrAt w X d f [v0, v1, v2, v3]
theorem KdAt.deeper {w : World} {X : Nat → Prop} {d d' n : Nat} {A : Option Addr} {ts : List Tr} (h : KdAt w X d A n ts) (hd : d ≤ d') : KdAt w X d' A n ts :=
  ⟨h.1, fun hn => by
    obtain ⟨b, o, hA, hX, hc⟩ := h.2 hn
    refine ⟨b, o, hA, hX, fun i t ht => ?_⟩
    obtain ⟨v0, v1, v2, e0, e1, e2, ht'⟩ := hc i t ht
    exact ⟨v0, v1, v2, e0, e1, e2, ht'.deeper hd⟩⟩
theorem FrsAt.keep {w w' : World} {X : Nat → Prop} {d : Nat} {fs : List Fr} {cells : List Value} (h : FrsAt w X d fs cells) (hk : ∀ b, X b → w'.heap[b]? = w.heap[b]?) : FrsAt w' X d fs cells :=
  ⟨h.1, fun i f hi => by
    obtain ⟨v0, v1, v2, v3, e0, e1, e2, e3, A, n, c, hv, hm, hc, hK, hx⟩ := h.2 i f hi
    exact ⟨v0, v1, v2, v3, e0, e1, e2, e3, A, n, c, hv, hm, hc, hK.keep hk, hx⟩⟩
theorem FrsAt.nil (w : World) (X : Nat → Prop) (d : Nat) : FrsAt w X d [] [] := ⟨rfl, fun i f h => by simp at h⟩
theorem FrsAt.snoc {w : World} {X : Nat → Prop} {d : Nat} {fs : List Fr} {cells : List Value} {f : Fr} {v0 v1 v2 v3 : Value} (h : FrsAt w X d fs cells) (hf : FrAt w X d f [v0, v1, v2, v3]) : FrsAt w X d (fs ++ [f]) (cells ++ [v0, v1, v2, v3]) := by
  have hl := h.1
  refine ⟨by simp [hl]; omega, fun i f' hi => ?_⟩
  rcases Nat.lt_or_ge i fs.length with h1 | h1
  · rw [List.getElem?_append_left h1] at hi
    obtain ⟨u0, u1, u2, u3, e0, e1, e2, e3, hf'⟩ := h.2 i f' hi
    refine ⟨u0, u1, u2, u3, ?_, ?_, ?_, ?_, hf'⟩
    · rw [List.getElem?_append_left (by omega)]; exact e0
    · rw [List.getElem?_append_left (by omega)]; exact e1
    · rw [List.getElem?_append_left (by omega)]; exact e2
    · rw [List.getElem?_append_left (by omega)]; exact e3
  · rw [List.getElem?_append_right h1] at hi
    have h0 : i - fs.length = 0 := by
      rcases Nat.eq_zero_or_pos (i - fs.length) with h | h
      · exact h
      · rw [List.getElem?_eq_none (by simp; omega)] at hi; cases hi
    rw [h0] at hi
    simp at hi
    subst hi
    refine ⟨v0, v1, v2, v3, ?_, ?_, ?_, ?_, hf⟩
    · rw [List.getElem?_append_right (by omega), show i * 4 - cells.length = 0 by omega]; rfl
    · rw [List.getElem?_append_right (by omega), show i * 4 + 1 - cells.length = 1 by omega]; rfl
    · rw [List.getElem?_append_right (by omega), show i * 4 + 2 - cells.length = 2 by omega]; rfl
    · rw [List.getElem?_append_right (by omega), show i * 4 + 3 - cells.length = 3 by omega]; rfl
/-- The writer in block b has written o, the nodes fs are open; trees lie below B. -/
def WrAt (B b d : Nat) (o : List UInt8) (fs : List Fr) (w : World) : Prop := ∃ ov cells, IsW B b (Lib.byteCells o) ov w ∧ w.ownsRow B 159 4 ov fs.length cells ∧ FrsAt w (· < B) d fs cells
theorem openInfo : (Try.prog.info? 159).map (fun i => (i.zero, i.size, i.bytes)) = some (some (.agg #[.int .i64 0, .slice none 0 0, .int .i64 0, .string ⟨#[]⟩]), 4, 56) := by kernel_rfl

def BPost (B b d : Nat) (o : List UInt8) (fs : List Fr) (w : World) (e : Ending) (w' : World) : Prop := e = .returned (.tuple #[]) ∧ WrAt B b d o fs w' ∧ Below B w w'
theorem isw_below {w w' : World} {B b : Nat} {bs : List Value} {ov : Value} (h : IsW B b bs ov w) (hb : Below w.heap.size w w') : IsW B b bs ov w' := by
  rcases h with ⟨h1, v, h2, h3⟩ | ⟨h1, v, h2, h3⟩
  · exact Or.inl ⟨h1, v, h2.below hb h2.lt, own_below h3 hb⟩
  · exact Or.inr ⟨h1, v, h2.below hb h2.lt, own_below h3 hb⟩
theorem IsW.lt {w : World} {B b : Nat} {bs : List Value} {ov : Value} (h : IsW B b bs ov w) : b < w.heap.size ∧ B ≤ b := by
  rcases h with ⟨h1, v, h2, h3⟩ | ⟨h1, v, h2, h3⟩
  · exact ⟨h2.lt, h1⟩
  · exact ⟨h2.lt, h1⟩
theorem keepsO_own {w w' : World} {B n : Nat} {v : Value} {xs : List Value} (h : w.ownsRow B 159 4 v n xs) (hk : KeepsO w w') : w'.ownsRow B 159 4 v n xs := by
  refine ⟨h.1, ?_⟩
  rcases h.2 with hn | ⟨g, cap, cur, rfl, hb, hg, rest⟩
  · exact .inl hn
  · exact .inr ⟨g, cap, cur, rfl, hb, hk g _ cur (by decide) (by decide) hg, rest⟩
set_option maxHeartbeats 1000000 in
set_option maxRecDepth 100000 in
theorem begin_set (B b d : Nat) (o : List UInt8) (fs : List Fr) (w : World) (h : WrAt B b d o fs w) (hB : B ≤ w.heap.size) (wi : Bool) (rs : List (UInt8 × UInt8)) (kids : List Tr) (A : Option Addr) (n c : Nat) (A' : Option Addr) (n' c' : Nat)
    (ht : TreeAt w (· < B) d (.mk 1 rs kids) [.int .i64 1, .slice A n c, .slice A' n' c']) (ho : o.length ≤ 35184372088832) :
    Calls Try.prog 48 #[.pointer (some ⟨b, 0, none⟩), .agg #[.int .i64 1, .slice A n c, .slice A' n' c'], .bool wi] w (BPost B b d (o ++ setTx rs) fs w) := by
  obtain ⟨ov, cells, hw, hown, hfs⟩ := h
  have hlb := hw.lt
  obtain ⟨d, rfl⟩ : ∃ d', d = d' + 1 := by cases d with | zero => exact ht.elim | succ d => exact ⟨d, rfl⟩
  obtain ⟨A1, n1, c1, A2, n2, c2, e0, e1, e2, hn1, _, hrg, _⟩ := ht.parts
  injection e1 with e1 e1' e1''
  subst e1 e1' e1''
  have hsl := setT_len rs
  clear ht e2 e0
  go_enter Try.func48, Try.ntmps48
  go_wp2_with fail
  refine wp_region_any (by kernel_rfl) ?_
  change wpAny _ _ _ _ _ _ _ (World.drew _)
  refine wpAny_take (i := 0) (v := .pointer (some ⟨b, 0, none⟩)) rfl (by kernel_rfl) (by kernel_rfl) (by kernel_rfl) (fun _ _ _ h => h) (Or.inl ⟨by rfl, fun W => by go_simp⟩) ?_
  refine wpAny_take (i := 1) (v := .pointer (some ⟨b, 0, none⟩)) rfl (by kernel_rfl) (by kernel_rfl) (by kernel_rfl) (fun _ _ _ h => h) (Or.inl ⟨by rfl, fun W => by go_simp⟩) ?_
  refine wpAny_take (i := 2) (v := .pointer (some ⟨b, 0, none⟩)) rfl (by kernel_rfl) (by kernel_rfl) (by kernel_rfl) (fun _ _ _ h => h) (Or.inl ⟨by rfl, fun W => by go_simp⟩) ?_
  refine wpAny_take (i := 3) (v := .pointer (some ⟨w.heap.size, 1, none⟩)) rfl (by kernel_rfl) (by kernel_rfl) (by kernel_rfl) (fun _ _ _ h => h) (Or.inl ⟨by rfl, fun W => by go_simp⟩) ?_
  refine wpAny_ready (rs := [4]) (by kernel_rfl) (by simp) ?_
  refine AllReady.cons rfl (fun K hK => ?_) AllReady.nil
  go_simp
  refine hK _ _ ?_
  clear hK K
  refine wpAny_ready (rs := [5]) (by kernel_rfl) (by simp) ?_
  refine AllReady.cons rfl (fun K hK => ?_) AllReady.nil
  go_simp
  go_wp2_with fail
  have hb0 : Below w.heap.size w (w.alloc (.cells #[.int .i64 1, .slice A n c, .slice A' n' c'] 30)).drew := ⟨rfl, rfl, rfl, by show w.heap.size ≤ (w.alloc _).heap.size; simp, fun j hj => Below.heap_alloc _ _ _ hj⟩
  refine (setText_any A n c rs _ ((hrg.keep (w' := (w.alloc (.cells #[.int .i64 1, .slice A n c, .slice A' n' c'] 30)).drew) fun j hj => hb0.block j (by omega)).mono fun j hj => by have := hb0.size; omega) hn1).mono ?_
  rintro e w1 ⟨rfl, b1⟩
  have hb1 := hb0.trans (b1.mono hb0.size)
  have hs1 := hb1.size
  refine hK _ _ ?_
  clear hK K
  refine wpAny_ready (rs := [6]) (by kernel_rfl) (by simp) ?_
  refine AllReady.cons rfl (fun K hK => ?_) AllReady.nil
  go_simp
  go_wp2_with fail
  refine (wString B b _ ov ⟨(setTx rs).toArray⟩ _ (isw_below hw hb1) (by simp [Lib.byteCells_length, ByteArray.size]; omega) (by omega)).mono ?_
  rintro e w2 ⟨rfl, hw2, b2, hk2⟩
  refine hK _ _ ?_
  refine wpAny_done (by kernel_rfl) ?_ _
  go_wp2
  go_end0
  refine ⟨rfl, ⟨ov, cells, ?_, keepsO_own (own_below hown hb1) hk2, ?_⟩, (hb1.mono hB).trans b2⟩
  · rw [bytes_app]; exact hw2
  · exact hfs.keep fun j hj => (b2.block j hj).trans (hb1.block j (by omega))
theorem IsW.split {w : World} {B b : Nat} {bs : List Value} {ov : Value} (h : IsW B b bs ov w) : ∃ p v, (p = .pointer none ∨ p = .pointer (some ⟨b, 0, none⟩)) ∧ B ≤ b ∧ Blk w b 109 #[p, v, ov] ∧ w.ownsRow B 5 1 v bs.length bs := by
  rcases h with ⟨h1, v, h2, h3⟩ | ⟨h1, v, h2, h3⟩
  · exact ⟨_, v, .inl rfl, h1, h2, h3⟩
  · exact ⟨_, v, .inr rfl, h1, h2, h3⟩
theorem IsW.join {w : World} {B b : Nat} {bs : List Value} {p v ov : Value} (hp : p = .pointer none ∨ p = .pointer (some ⟨b, 0, none⟩)) (h1 : B ≤ b) (h2 : Blk w b 109 #[p, v, ov]) (h3 : w.ownsRow B 5 1 v bs.length bs) : IsW B b bs ov w := by
  rcases hp with rfl | rfl
  · exact .inl ⟨h1, v, h2, h3⟩
  · exact .inr ⟨h1, v, h2, h3⟩
/-- Two rows of other types lie apart. -/
theorem rows_apart {w : World} {B n m : Nat} {v u : Value} {xs ys : List Value} (h : w.ownsRow B 5 1 v n xs) (k : w.ownsRow B 159 4 u m ys) : v.ownBlock = none ∨ v.ownBlock ≠ u.ownBlock := by
  rcases h.2 with ⟨rfl, _⟩ | ⟨g, cap, cur, rfl, _, hg, _⟩
  · exact .inl rfl
  · right
    intro e
    rcases k.2 with ⟨rfl, _⟩ | ⟨g', cap', cur', rfl, _, hg', _⟩
    · simp [Value.ownBlock] at e
    · simp only [Value.ownBlock, Option.some.injEq] at e
      rw [e, hg'] at hg
      simp at hg
theorem wr_apart {w : World} {B b n : Nat} {p v ov : Value} {cells : List Value} (hbk : Blk w b 109 #[p, v, ov]) (hown : w.ownsRow B 159 4 ov n cells) : some b ≠ ov.ownBlock := fun e => by
  rcases hown.2 with ⟨rfl, _⟩ | ⟨g, cap, cur, rfl, _, hg, _⟩
  · simp [Value.ownBlock] at e
  · simp only [Value.ownBlock, Option.some.injEq] at e
    subst e
    unfold Blk at hbk
    rw [hg] at hbk
    simp at hbk
/-- A node more is open. -/
theorem open_step {w w1 w2 : World} {B b d : Nat} {o : List UInt8} {fs : List Fr} {f : Fr} {p v ov ov' : Value} {cells : List Value} {v0 v1 v2 v3 : Value} (hp : p = .pointer none ∨ p = .pointer (some ⟨b, 0, none⟩)) (hB : B ≤ w.heap.size) (hBb : B ≤ b)
    (hbk : Blk w b 109 #[p, v, ov]) (hv : w.ownsRow B 5 1 v (Lib.byteCells o).length (Lib.byteCells o)) (hown : w.ownsRow B 159 4 ov fs.length cells) (hfs : FrsAt w (· < B) d fs cells) (hb1 : Below w.heap.size w w1)
    (hgrow : w1.grownBy w2 ov.ownBlock) (hown2 : w2.ownsRow B 159 4 ov' (fs.length + 1) (cells ++ [v0, v1, v2, v3])) (hf : FrAt w (· < B) d f [v0, v1, v2, v3]) :
    WrAt B b d o (fs ++ [f]) (w2.setCell ⟨b, 2, none⟩ ov') ∧ Below B w (w2.setCell ⟨b, 2, none⟩ ov') := by
  have hown1 := own_below hown hb1
  have hv1 := own_below hv hb1
  have hne : some b ≠ ov.ownBlock := fun e => by
    rcases hown.2 with ⟨rfl, _⟩ | ⟨g, cap, cur, rfl, _, hg, _⟩
    · simp [Value.ownBlock] at e
    · simp only [Value.ownBlock, Option.some.injEq] at e
      subst e
      unfold Blk at hbk
      rw [hg] at hbk
      simp at hbk
  have hb2 : Blk w2 b 109 #[p, v, ov] := (hbk.below hb1 hbk.lt).grown hgrow hne
  have hv2 := hv1.kept hgrow (rows_apart hv1 hown1)
  have hne2 : some b ≠ ov'.ownBlock := fun e => by
    rcases hown2.2 with ⟨rfl, _⟩ | ⟨g, cap, cur, rfl, _, hg, _⟩
    · simp [Value.ownBlock] at e
    · simp only [Value.ownBlock, Option.some.injEq] at e
      subst e
      unfold Blk at hb2
      rw [hg] at hb2
      simp at hb2
  have hlow : ∀ j, j < B → (w2.setCell ⟨b, 2, none⟩ ov').heap[j]? = w.heap[j]? := fun j hj => by
    rw [Below.heap_setCell _ _ _ _ (by show j ≠ b; omega), hgrow.block j (by have := hb1.size; omega) (fun e => by have := (hown1.lt j e.symm).1; omega), hb1.block j (by omega)]
  refine ⟨⟨ov', cells ++ [v0, v1, v2, v3], IsW.join hp hBb (hb2.set_ 2 _) (own_setW hv2 (own_type hv2 hb2 (by decide))), ?_, ?_⟩, ?_⟩
  · rw [List.length_append, List.length_singleton]
    exact hown2.kept (row := some b) ⟨rfl, rfl, rfl, by simp [World.setCell], fun k _ hk => Below.heap_setCell _ _ _ _ (fun e => hk (by simp [e]))⟩ (Or.inr fun e => hne2 e.symm)
  · refine (hfs.keep hlow).snoc ?_
    obtain ⟨A, n, c, hv, hm, hc, hK, hx⟩ := hf
    exact ⟨A, n, c, hv, hm, hc, hK.keep hlow, hx⟩
  · have h1 : Below B w w1 := hb1.mono hB
    exact (h1.grown hgrow (by have := hb1.size; omega) (fun j hj => (hown1.lt j hj).1)).setCell (p := ⟨b, 2, none⟩) hBb _
theorem four_one (k : Int) (A : Option Addr) (n c : Nat) (m : Int) (s : ByteArray) : ∀ u ∈ [Value.int .i64 k, .slice A n c, .int .i64 m, .string s], u.oneCell' = true := by
  intro u hu; simp at hu; rcases hu with rfl | rfl | rfl | rfl <;> rfl
end Go.Proofs.Ytponepcgokfiiaa
