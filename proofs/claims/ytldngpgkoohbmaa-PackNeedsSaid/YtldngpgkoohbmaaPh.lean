/- A panic of f's own goes on (goesOn). -/
import Derived.Test.YtldngpgkoohbmaaPg
namespace Go.Proofs.Ytldngpgkoohbmaa
open Go.RowKit

def mineV : Value := .iface 9 (.string ⟨#[109, 105, 110, 101]⟩)
set_option maxRecDepth 100000 in
theorem goesOn2_any (p : Value) (w : World) : Calls Try.prog 71 #[p] w fun e w' => e = .panicked [{ v := mineV, recovered := false }] ∧ w = w' := by
  go_enter Try.func71, Try.ntmps71
  go_wp2
  exact ⟨rfl, rfl, rfl⟩
set_option maxHeartbeats 1000000 in
set_option maxRecDepth 100000 in
theorem lets1_mine (bx : Nat) (older : List PanicEntry) (w : World) :
    CallsD Try.prog 79 #[.pointer (some ⟨bx, 0, none⟩)] (.panicking ({ v := mineV, recovered := false } :: older)) w fun e u' w' =>
      e = .panicked [{ v := mineV, recovered := false }] ∧ u' = .panicking ({ v := mineV, recovered := true } :: older) ∧ w = w' := by
  unfold mineV
  refine callsD_of_wpS Try.func79 rfl fun c₀ cs hu => ?_
  apply wpS_seq
  apply wpS_region
  simp [wpOpsS, go_sem, recoverD, hu, Try.ntmps79, Exit.thenS]
  rw [arr16]
  refine wpS_of_wp ?_
  have hq : ∀ W : World, (binOp .eql 20 (.iface 9 (.string ⟨#[109, 105, 110, 101]⟩)) .nilIface).run Try.prog W = .ok (.bool false) W := fun W => by kernel_rfl
  have hta : ∀ W : World, (Instr.typeAssert (.iface 9 (.string ⟨#[109, 105, 110, 101]⟩)) 20 111 true).run Try.prog W = .ok (.tuple #[.agg #[.pointer none], .bool false]) W := fun W => by kernel_rfl
  go_wp2
  simp [bodyPostS]
set_option maxHeartbeats 1000000 in
set_option maxRecDepth 100000 in
theorem lets_mine (rp : Nat) (w : World) :
    Calls Try.prog 68 #[.pointer (some ⟨rp, 0, none⟩), .func (.func 71) #[] #[]] w fun e w' => e = .panicked [{ v := mineV, recovered := false }, { v := mineV, recovered := true }] ∧ Below w.heap.size w w' := by
  have hmf : ∀ (fn : Fn) (first cap : Array Value) (w : World), (Instr.makeFunc fn first cap).run Try.prog w = .ok (.func fn first cap) w := fun _ _ _ _ => rfl
  have hq : ∀ W : World, (binOp .eql 70 (.func (.func 71) #[] #[]) .nilFunc).run Try.prog W = .ok (.bool false) W := fun W => by kernel_rfl
  have HB := Lib.hid ((Below.refl w.heap.size w).alloc (Nat.le_refl _) (.cells #[.pointer (some ⟨rp, 0, none⟩)] 66))
  go_enter_defers Try.func68, Try.ntmps68
  go_wp2_with fail
  refine (goesOn2_any _ _).mono ?_
  rintro e w1 ⟨rfl, rfl⟩
  go_wp2
  refine leaves_cons (f := 79) (args := #[.pointer (some ⟨w.heap.size, 0, none⟩)]) (by simp) (by simp [go_sem]) ?_
  refine (lets1_mine w.heap.size [] _).mono ?_
  rintro e u' w'' ⟨rfl, rfl, rfl⟩
  simp [Leaves, settle, results, Try.results68, go_sem]
  exact ⟨rfl, HB.out⟩
set_option maxHeartbeats 1000000 in
set_option maxRecDepth 100000 in
theorem read_mine (A : Option Addr) (m c : Nat) (w : World) :
    Calls Try.prog 34 #[.slice A m c, .func (.func 71) #[] #[]] w fun e w' => e = .panicked [{ v := mineV, recovered := false }, { v := mineV, recovered := true }] ∧ Below w.heap.size w w' := by
  have hb := Blk.new w 107 #[.slice A m c, .bool true, .bool false]
  have hB : Below w.heap.size w (w.alloc (.cells #[.slice A m c, .bool true, .bool false] 107)) := (Below.refl _ w).alloc (Nat.le_refl _) _
  go_enter_defers Try.func34, Try.ntmps34
  go_wp2_with fail
  refine (lets_mine _ _).mono ?_
  rintro e w1 ⟨rfl, h1⟩
  have hb1 := hb.below h1 (by simp)
  have HB1 := Lib.hid (hB.trans (h1.mono (by simp)))
  have HBB := Lib.hid hb1
  clear hb hB h1 hb1
  go_wp2
  refine leaves_cons (f := 67) (args := #[.pointer (some ⟨w.heap.size, 0, none⟩)]) (by simp) (by simp [go_sem]) ?_
  refine (end_any _ HBB.out).mono ?_
  rintro e u' w'' ⟨rfl, rfl, hk⟩
  exact ⟨rfl, HB1.out.trans (hk.below HB1.out.size (fun j hj => by rw [show j = w.heap.size from hj]; exact Nat.le_refl _))⟩
theorem arr13 (a x t s b : Value) : #[a] ++ (((((((Array.replicate 12 undef).setIfInBounds 3 x).setIfInBounds 4 t).setIfInBounds 2 t).setIfInBounds 5 s).setIfInBounds 6 b).setIfInBounds 0 s).setIfInBounds 1 b = #[a, s, b, t, x, t, s, b, undef, undef, undef, undef, undef] := by kernel_rfl
set_option maxHeartbeats 1000000 in
set_option maxRecDepth 100000 in
theorem goesOn1_any (g : Nat) (older : List PanicEntry) (w : World) (h : Blk w g 4 #[.bool false]) :
    CallsD Try.prog 70 #[.pointer (some ⟨g, 0, none⟩)] (.panicking ({ v := mineV, recovered := false } :: older)) w fun e u' w' =>
      e = .returned (.tuple #[]) ∧ u' = .panicking ({ v := mineV, recovered := true } :: older) ∧ Blk w' g 4 #[.bool true] ∧ Below g w w' := by
  have hta : ∀ W : World, (Instr.typeAssert (.iface 9 (.string ⟨#[109, 105, 110, 101]⟩)) 20 9 true).run Try.prog W = .ok (.tuple #[.string ⟨#[109, 105, 110, 101]⟩, .bool true]) W := fun W => by kernel_rfl
  unfold mineV
  refine callsD_of_wpS Try.func70 rfl fun c₀ cs hu => ?_
  apply wpS_seq
  apply wpS_region
  simp [wpOpsS, go_sem, recoverD, hu, Try.ntmps70, Exit.thenS, hta]
  rw [arr13]
  refine wpS_of_wp ?_
  have q0 : w.cell? ⟨g, 0, none⟩ = some (.bool false) := h.cell 0
  have q1 : w.frozen? ⟨g, 0, none⟩ = false := h.frozen 0
  have HB := Lib.hid (h.set_ 0 (.bool true))
  have HE := Lib.hid ((Below.refl g w).setCell (p := ⟨g, 0, none⟩) (Nat.le_refl _) (.bool true))
  clear h
  go_wp2
  simp [bodyPostS, results, Try.results70]
  exact ⟨HB.out, HE.out⟩
set_option maxHeartbeats 1000000 in
set_option maxRecDepth 100000 in
theorem goesOn_any (A : Option Addr) (m c : Nat) (w : World) : Calls Try.prog 43 #[.slice A m c] w fun e w' => e = .returned (.bool true) ∧ Below w.heap.size w w' := by
  have hmf : ∀ (fn : Fn) (first cap : Array Value) (w : World), (Instr.makeFunc fn first cap).run Try.prog w = .ok (.func fn first cap) w := fun _ _ _ _ => rfl
  have hb := Blk.new w 4 #[.bool false]
  have hB : Below w.heap.size w (w.alloc (.cells #[.bool false] 4)) := (Below.refl _ w).alloc (Nat.le_refl _) _
  go_enter_defers Try.func43, Try.ntmps43
  go_wp2_with fail
  refine (read_mine _ _ _ _).mono ?_
  rintro e w1 ⟨rfl, h1⟩
  have HBB := Lib.hid (hb.below h1 (by simp))
  have HB1 := Lib.hid (hB.trans (h1.mono (by simp)))
  clear hb hB h1
  go_wp2
  refine leaves_cons (f := 70) (args := #[.pointer (some ⟨w.heap.size, 0, none⟩)]) (by simp) (by simp [go_sem]) ?_
  refine (goesOn1_any w.heap.size _ _ HBB.out).mono ?_
  rintro e u' w'' ⟨rfl, rfl, h2, h3⟩
  have q0 : w''.cell? ⟨w.heap.size, 0, none⟩ = some (.bool true) := h2.cell 0
  simp [Leaves, settle, mineV, results, Try.results43, go_sem, q0]
  exact HB1.out.trans h3
def NdQ (w : World) (nb rp : Nat) (n : Int) (bs' : List UInt8) (w' : World) : Prop := bs' = [] ∧ Blk w' nb 3 #[.int .i64 n] ∧ Blk w' (rp + 1) 66 #[.pointer (some ⟨rp, 0, none⟩)] ∧ Kept (fun j => j = rp ∨ j = nb) w w'
theorem nil_b (w : World) : BytesAt w none 0 [] := ⟨rfl, fun h => by omega⟩
theorem needs_read {w : World} {ab nb : Nat} {at_ : Int} (ha : Blk w ab 3 #[.int .i64 at_]) (hn : Blk w nb 3 #[.int .i64 0]) (h3 : ab ≠ nb) (hat : at_ < 0 ∨ 20 ≤ at_) :
    Calls Try.prog 34 #[.slice none 0 0, .func (.func 44) #[] #[.pointer (some ⟨ab, 0, none⟩), .pointer (some ⟨nb, 0, none⟩)]] w fun e w' => e = .returned (.int .i64 0) ∧ Blk w' nb 3 #[.int .i64 20] ∧ Kept (fun j => j = w.heap.size ∨ j = nb) w w' := by
  have la := ha.lt
  have ln := hn.lt
  have hr := rd_new w (X := fun _ => False) (nil_b w) (Nat.le_refl 0) (by decide) (fun b o e => by cases e) (fun e => e)
  have hbx := box_new w none 0 0
  have C := read_ret (w := w) (A := none) (m := 0) (c := 0) (X := fun _ => False) 44 #[.pointer (some ⟨ab, 0, none⟩), .pointer (some ⟨nb, 0, none⟩)] (fun args W => by kernel_rfl) (NdQ ((w.alloc (.cells #[.slice none 0 0, .bool true, .bool false] 107)).alloc (.cells #[.pointer (some ⟨w.heap.size, 0, none⟩)] 66)) nb w.heap.size 20) (fun bs' w' h => h.2.2.1)
    ((needs1_ret hr ((ha.alloc _).alloc _) ((hn.alloc _).alloc _) (by omega) (by omega) h3 hat).mono (by
      rintro e w' ⟨rfl, hr', hn', hk⟩
      exact ⟨[], rfl, hr', rfl, hn', hbx.kept hk (by omega), hk⟩))
  refine C.mono ?_
  rintro e w' ⟨bs', w1, w2, rfl, ⟨rfl, hn', _, hk⟩, hb, hk2⟩
  refine ⟨rfl, (hn'.below hb hn'.lt).kept hk2 (by omega), ?_⟩
  have k0 : Kept (fun j => j = w.heap.size ∨ j = nb) w w1 := (((Kept.refl (fun j => j = w.heap.size ∨ j = nb) w).alloc _).alloc _).trans hk (fun j hj => .inl hj)
  exact (k0.trans (kept_below (X := fun _ => False) hb) (fun j hj => False.elim hj)).trans hk2 (fun j hj => .inl (.inl hj))
theorem needs_stop {w : World} {ab nb q : Nat} (ha : Blk w ab 3 #[.int .i64 (q : Nat)]) (hn : Blk w nb 3 #[.int .i64 0]) (h3 : ab ≠ nb) (hq : q < 20) :
    Calls Try.prog 34 #[.slice none 0 0, .func (.func 44) #[] #[.pointer (some ⟨ab, 0, none⟩), .pointer (some ⟨nb, 0, none⟩)]] w fun e w' => e = .returned (.int .i64 80) ∧ Blk w' nb 3 #[.int .i64 (q : Nat)] ∧ Kept (fun j => j = w.heap.size ∨ j = nb) w w' := by
  have la := ha.lt
  have ln := hn.lt
  have hr := rd_new w (X := fun _ => False) (nil_b w) (Nat.le_refl 0) (by decide) (fun b o e => by cases e) (fun e => e)
  have hbx := box_new w none 0 0
  have C := read_pan (w := w) (A := none) (m := 0) (c := 0) (X := fun _ => False) 44 #[.pointer (some ⟨ab, 0, none⟩), .pointer (some ⟨nb, 0, none⟩)] (fun args W => by kernel_rfl) (NdQ ((w.alloc (.cells #[.slice none 0 0, .bool true, .bool false] 107)).alloc (.cells #[.pointer (some ⟨w.heap.size, 0, none⟩)] 66)) nb w.heap.size (q : Nat)) (fun bs' w' h => h.2.2.1)
    ((needs1_pan hr ((ha.alloc _).alloc _) ((hn.alloc _).alloc _) (by omega) (by omega) h3 hq).mono (by
      rintro e w' ⟨rfl, hr', hn', hk⟩
      exact ⟨[], rfl, hr', rfl, hn', hbx.kept hk (by omega), hk⟩))
  refine C.mono ?_
  rintro e w' ⟨bs', w1, w2, rfl, ⟨rfl, hn', _, hk⟩, hb, hk2⟩
  refine ⟨rfl, (hn'.below hb hn'.lt).kept hk2 (by omega), ?_⟩
  have k0 : Kept (fun j => j = w.heap.size ∨ j = nb) w w1 := (((Kept.refl (fun j => j = w.heap.size ∨ j = nb) w).alloc _).alloc _).trans hk (fun j hj => .inl hj)
  exact (k0.trans (kept_below (X := fun _ => False) hb) (fun j hj => False.elim hj)).trans hk2 (fun j hj => .inl (.inl hj))
set_option maxHeartbeats 2000000 in
set_option maxRecDepth 100000 in
theorem packNeeds_walk (A : Option Addr) (n c : Nat) (at_ : Int) (own : Bool) (w : World) :
    Calls Try.prog 9 #[.slice A n c, .int .i64 at_, .bool own] w fun e w' => e = .returned (.bool true) ∧ Below w.heap.size w w' := by
  have hmf : ∀ (fn : Fn) (first cap : Array Value) (w : World), (Instr.makeFunc fn first cap).run Try.prog w = .ok (.func fn first cap) w := fun _ _ _ _ => rfl
  have hb := Blk.new w 3 #[.int .i64 at_]
  have hB : Below w.heap.size w (w.alloc (.cells #[.int .i64 at_] 3)) := (Below.refl _ w).alloc (Nat.le_refl _) _
  cases own with
  | true =>
    go_enter Try.func9, Try.ntmps9
    go_wp2_with fail
    refine (reading_any _).mono ?_
    rintro e w1 ⟨rfl, h1⟩
    have HB1 := Lib.hid (hB.trans (h1.mono (by simp)))
    clear hb hB h1
    go_wp2_with fail
    refine (goesOn_any _ _ _ _).mono ?_
    rintro e w2 ⟨rfl, h2⟩
    go_wp2
    go_ret
    exact ⟨rfl, HB1.out.trans (h2.mono HB1.out.size)⟩
  | false =>
    go_enter Try.func9, Try.ntmps9
    go_wp2_with fail
    refine (reading_any _).mono ?_
    rintro e w1 ⟨rfl, h1⟩
    have hb1 := hb.below h1 (by simp)
    have lb := hb1.lt
    have HB1 := Lib.hid (hB.trans (h1.mono (by simp)))
    have hbn := Blk.new w1 3 #[.int .i64 0]
    have hb2 := hb1.alloc (.cells #[.int .i64 0] 3)
    have HB2 := Lib.hid (HB1.out.alloc HB1.out.size (.cells #[.int .i64 0] 3))
    have hs2 : (w1.alloc (.cells #[.int .i64 0] 3)).heap.size = w1.heap.size + 1 := by simp
    have fin : ∀ w' : World, Kept (fun j => j = (w1.alloc (.cells #[.int .i64 0] 3)).heap.size ∨ j = w1.heap.size) (w1.alloc (.cells #[.int .i64 0] 3)) w' → Blk w' w.heap.size 3 #[.int .i64 at_] ∧ Below w.heap.size w w' := fun w' hk =>
      ⟨hb2.kept hk (by rw [hs2]; omega), HB2.out.trans (hk.below HB2.out.size (fun j hj => by rcases hj with e | e <;> omega))⟩
    have FIN := Lib.hid fin
    by_cases hat : at_ < 0 ∨ 20 ≤ at_
    · have C := Lib.hid (needs_read hb2 hbn (by omega) hat)
      clear hb hB h1 hb1 hbn hb2 hs2 fin
      go_wp2_with fail
      refine C.out.mono ?_
      rintro e w' ⟨rfl, hn', hk⟩
      obtain ⟨ha', hB'⟩ := FIN.out w' hk
      have q0 : w'.cell? ⟨w.heap.size, 0, none⟩ = some (.int .i64 at_) := ha'.cell 0
      have q1 : w'.cell? ⟨w1.heap.size, 0, none⟩ = some (.int .i64 20) := hn'.cell 0
      clear ha' hk hn'
      rcases hat with hat | hat
      · have h0 : ¬ (0 : Int) ≤ at_ := by omega
        go_wp2
        go_ret
        exact ⟨rfl, hB'⟩
      · have h0 : (0 : Int) ≤ at_ := by omega
        have h20 : ¬ at_ < 20 := by omega
        go_wp2
        go_ret
        exact ⟨rfl, hB'⟩
    · obtain ⟨q, hq⟩ : ∃ q : Nat, at_ = (q : Int) := ⟨at_.toNat, by omega⟩
      subst hq
      have hq20 : q < 20 := by omega
      have hq' : (q : Int) < 20 := by omega
      have C := Lib.hid (needs_stop hb2 hbn (by omega) hq20)
      clear hb hB h1 hb1 hbn hb2 hs2 fin hat
      go_wp2_with fail
      refine C.out.mono ?_
      rintro e w' ⟨rfl, hn', hk⟩
      obtain ⟨ha', hB'⟩ := FIN.out w' hk
      have q0 : w'.cell? ⟨w.heap.size, 0, none⟩ = some (.int .i64 (q : Nat)) := ha'.cell 0
      have q1 : w'.cell? ⟨w1.heap.size, 0, none⟩ = some (.int .i64 (q : Nat)) := hn'.cell 0
      clear ha' hk hn'
      go_wp2
      go_ret
      exact ⟨rfl, hB'⟩
end Go.Proofs.Ytldngpgkoohbmaa
