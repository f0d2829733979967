/- pack.Read, over whatever function. -/
import Derived.Test.YtdhiofbimebbkaaDoorPd
namespace Go.Proofs.YtdhiofbimebbkaaDoor
open Go.RowKit

def FRet (rp : Nat) (X : Nat → Prop) (Q : List UInt8 → World → Prop) (e : Ending) (w' : World) : Prop := ∃ bs', e = .returned (.tuple #[]) ∧ RdAt w' rp X bs' false ∧ Q bs' w'
def FPan (rp : Nat) (X : Nat → Prop) (Q : List UInt8 → World → Prop) (e : Ending) (w' : World) : Prop := ∃ bs', e = refusE rp ∧ RdAt w' rp X bs' true ∧ Q bs' w'
def LRet (rp : Nat) (X : Nat → Prop) (Q : List UInt8 → World → Prop) (ok : Bool) (e : Ending) (w' : World) : Prop := ∃ bs' w1, e = .returned (.bool ok) ∧ RdAt w' rp X bs' (!ok) ∧ Q bs' w1 ∧ Below w1.heap.size w1 w'
section
variable {w : World} {rp : Nat} {X : Nat → Prop}
set_option maxHeartbeats 1000000 in
set_option maxRecDepth 100000 in
theorem lets_ret (fn : FuncId) (caps : Array Value) (hE : ∀ args W, (callFunc fn args).run Tryd.prog W = .ok (.enter fn args) W) (Q : List UInt8 → World → Prop) (hQ : ∀ bs' w', Q bs' w' → Blk w' w.heap.size 90 #[.pointer (some ⟨rp, 0, none⟩)])
    (hc : Calls Tryd.prog fn (#[.pointer (some ⟨rp, 0, none⟩)] ++ caps) (w.alloc (.cells #[.pointer (some ⟨rp, 0, none⟩)] 90)) (FRet rp X Q)) :
    Calls Tryd.prog 66 #[.pointer (some ⟨rp, 0, none⟩), .func (.func fn) #[] caps] w (LRet rp X Q true) := by
  have hmf : ∀ (fn : Fn) (first cap : Array Value) (w : World), (Instr.makeFunc fn first cap).run Tryd.prog w = .ok (.func fn first cap) w := fun _ _ _ _ => rfl
  have hq : ∀ W : World, (binOp .eql 93 (.func (.func fn) #[] caps) .nilFunc).run Tryd.prog W = .ok (.bool false) W := fun W => by kernel_rfl
  have HC := Lib.hid hc
  have HQ := Lib.hid hQ
  clear hc hQ
  go_enter_defers Tryd.func66, Tryd.ntmps66
  go_wp2_with fail
  refine HC.out.mono ?_
  rintro e w1 ⟨bs', rfl, hr, hq1⟩
  have b0 : w1.cell? ⟨w.heap.size, 0, none⟩ = some (.pointer (some ⟨rp, 0, none⟩)) := (HQ.out _ _ hq1).cell 0
  obtain ⟨A, m, c, hb, hby, hmc, hml, hap⟩ := hr.ex
  have r0 : w1.cell? ⟨rp, 2, none⟩ = some (.bool false) := hb.cell 2
  have HR := Lib.hid hr
  have HQ1 := Lib.hid hq1
  clear hr hq1 hb hby hmc hml hap
  go_wp2
  refine leaves_cons (f := 81) (args := #[.pointer (some ⟨w.heap.size, 0, none⟩)]) (by simp) (by simp [go_sem]) ?_
  refine (lets1_idle _ _).mono ?_
  rintro e u' w'' ⟨rfl, rfl, rfl⟩
  simp [Leaves, settle, results, Tryd.results66, go_sem]
  exact ⟨_, _, rfl, HR.out, HQ1.out, Below.refl _ _⟩
theorem RdAt.below {bs : List UInt8} {rf : Bool} {w' : World} (h : RdAt w rp X bs rf) (hb : Below w.heap.size w w') : RdAt w' rp X bs rf := by
  obtain ⟨A, m, c, h1, h2, h3, h4, h5⟩ := h.ex
  exact ⟨⟨A, m, c, h1.below hb h1.lt, h2.below hb, h3, h4, h5⟩, h.nx⟩
set_option maxHeartbeats 1000000 in
set_option maxRecDepth 100000 in
theorem lets_pan (fn : FuncId) (caps : Array Value) (hE : ∀ args W, (callFunc fn args).run Tryd.prog W = .ok (.enter fn args) W) (Q : List UInt8 → World → Prop) (hQ : ∀ bs' w', Q bs' w' → Blk w' w.heap.size 90 #[.pointer (some ⟨rp, 0, none⟩)])
    (hc : Calls Tryd.prog fn (#[.pointer (some ⟨rp, 0, none⟩)] ++ caps) (w.alloc (.cells #[.pointer (some ⟨rp, 0, none⟩)] 90)) (FPan rp X Q)) :
    Calls Tryd.prog 66 #[.pointer (some ⟨rp, 0, none⟩), .func (.func fn) #[] caps] w (LRet rp X Q false) := by
  have hmf : ∀ (fn : Fn) (first cap : Array Value) (w : World), (Instr.makeFunc fn first cap).run Tryd.prog w = .ok (.func fn first cap) w := fun _ _ _ _ => rfl
  have hq : ∀ W : World, (binOp .eql 93 (.func (.func fn) #[] caps) .nilFunc).run Tryd.prog W = .ok (.bool false) W := fun W => by kernel_rfl
  have HC := Lib.hid hc
  have HQ := Lib.hid hQ
  clear hc hQ
  go_enter_defers Tryd.func66, Tryd.ntmps66
  go_wp2_with fail
  refine HC.out.mono ?_
  rintro e w1 ⟨bs', rfl, hr, hq1⟩
  have b0 := HQ.out _ _ hq1
  have HR := Lib.hid hr
  have HQ1 := Lib.hid hq1
  clear hr hq1
  unfold refusE
  go_wp2
  refine leaves_cons (f := 81) (args := #[.pointer (some ⟨w.heap.size, 0, none⟩)]) (by simp) (by simp [go_sem]) ?_
  refine (lets1_pan w.heap.size rp [] _ (b0.cell 0) b0.lt).mono ?_
  rintro e u' w'' ⟨rfl, rfl, hb⟩
  simp [Leaves, settle, results, Tryd.results66, go_sem]
  exact ⟨_, _, rfl, HR.out.below hb, HQ1.out, hb⟩
set_option maxHeartbeats 400000 in
theorem end_any {A : Option Addr} {m c : Nat} {a b : Bool} (u : FrameMode) (h : Blk w rp 101 #[.slice A m c, .bool a, .bool b]) :
    CallsD Tryd.prog 65 #[.pointer (some ⟨rp, 0, none⟩)] u w fun e u' w' => e = .returned (.tuple #[]) ∧ u' = u ∧ Kept (· = rp) w w' := by
  obtain ⟨c0, c1, c2, f0, f1, f2⟩ := blk3 h
  have HK := Lib.hid ((((Kept.refl (· = rp) w).set_ (p := ⟨rp, 0, none⟩) (.inl rfl) (.slice none 0 0)).set_ (p := ⟨rp, 1, none⟩) (.inl rfl) (.bool false)).set_ (p := ⟨rp, 2, none⟩) (.inl rfl) (.bool false))
  clear h
  refine callsD_of_wpS Tryd.func65 rfl fun c₀ cs hu => ?_
  refine wpS_of_wp ?_
  simp only [Tryd.ntmps65]
  go_wp2
  subst hu
  simp [bodyPostS, results, Tryd.results65]
  exact ⟨_, rfl, rfl, HK.out⟩
set_option maxHeartbeats 400000 in
theorem left_any {bs : List UInt8} {rf : Bool} (h : RdAt w rp X bs rf) : Calls Tryd.prog 58 #[.pointer (some ⟨rp, 0, none⟩)] w fun e w' => e = .returned (.int .i64 (bs.length : Nat)) ∧ w = w' := by
  obtain ⟨A, m, c, hb, hby, hmc, hml, hap⟩ := h.ex
  obtain ⟨c0, c1, c2, f0, f1, f2⟩ := blk3 hb
  obtain rfl := hby.1
  clear h hb hby hap
  go_enter Tryd.func58, Tryd.ntmps58
  go_wp2
  go_ret
  exact ⟨rfl, rfl⟩
end
/-- What Read has made: its answer, and what stood behind f. -/
def RRes (rp : Nat) (Q : List UInt8 → World → Prop) (ok : Bool) (e : Ending) (w' : World) : Prop := ∃ bs' w1 w2, e = .returned (.int .i64 (if ok && bs'.isEmpty then 0 else 80)) ∧ Q bs' w1 ∧ Below w1.heap.size w1 w2 ∧ Kept (· = rp) w2 w'
set_option maxHeartbeats 2000000 in
set_option maxRecDepth 100000 in
theorem read_ret {w : World} {X : Nat → Prop} {A : Option Addr} {m c : Nat} (fn : FuncId) (caps : Array Value) (hE : ∀ args W, (callFunc fn args).run Tryd.prog W = .ok (.enter fn args) W) (Q : List UInt8 → World → Prop) (hQ : ∀ bs' w', Q bs' w' → Blk w' (w.heap.size + 1) 90 #[.pointer (some ⟨w.heap.size, 0, none⟩)])
    (hc : Calls Tryd.prog fn (#[.pointer (some ⟨w.heap.size, 0, none⟩)] ++ caps) ((w.alloc (.cells #[.slice A m c, .bool true, .bool false] 101)).alloc (.cells #[.pointer (some ⟨w.heap.size, 0, none⟩)] 90)) (FRet w.heap.size X Q)) :
    Calls Tryd.prog 54 #[.slice A m c, .func (.func fn) #[] caps] w (RRes w.heap.size Q true) := by
  have C := Lib.hid (lets_ret (w := w.alloc (.cells #[.slice A m c, .bool true, .bool false] 101)) fn caps hE Q (by simpa using hQ) hc)
  clear hQ hc hE
  go_enter_defers Tryd.func54, Tryd.ntmps54
  go_wp2_with fail
  refine C.out.mono ?_
  rintro e w3 ⟨bs', w1, rfl, hr, hq1, hb1⟩
  obtain ⟨A', m', c', hb, hby, hmc, hml, hap⟩ := hr.ex
  have CL := Lib.hid (left_any hr)
  have hml2 := hby.1
  clear hr hap hmc
  cases bs' with
  | nil =>
    rw [show ((([] : List UInt8).length : Nat) : Int) = 0 from rfl] at CL
    clear hml2 hby hml
    go_wp2_with fail
    refine CL.out.mono ?_
    rintro e w4 ⟨rfl, rfl⟩
    go_wp2
    refine leaves_cons (f := 65) (args := #[.pointer (some ⟨w.heap.size, 0, none⟩)]) (by simp) (by simp [go_sem]) ?_
    refine (end_any _ hb).mono ?_
    rintro e u' w'' ⟨rfl, rfl, hk⟩
    simp [Leaves, settle, results, Tryd.results54, go_sem]
    exact ⟨[], w1, w3, rfl, hq1, hb1, hk⟩
  | cons x r =>
    have hl : (0 : Int) < (((x :: r).length : Nat) : Int) := by rw [List.length_cons]; omega
    obtain ⟨L, hL⟩ : ∃ L, L = (x :: r).length := ⟨_, rfl⟩
    rw [← hL] at CL hl
    have HL := Lib.hid hL
    clear hL hml2
    go_wp2_with fail
    refine CL.out.mono ?_
    rintro e w4 ⟨rfl, rfl⟩
    go_wp2
    refine leaves_cons (f := 65) (args := #[.pointer (some ⟨w.heap.size, 0, none⟩)]) (by simp) (by simp [go_sem]) ?_
    refine (end_any _ hb).mono ?_
    rintro e u' w'' ⟨rfl, rfl, hk⟩
    simp [Leaves, settle, results, Tryd.results54, go_sem]
    exact ⟨x :: r, w1, w3, rfl, hq1, hb1, hk⟩
set_option maxHeartbeats 2000000 in
set_option maxRecDepth 100000 in
theorem read_pan {w : World} {X : Nat → Prop} {A : Option Addr} {m c : Nat} (fn : FuncId) (caps : Array Value) (hE : ∀ args W, (callFunc fn args).run Tryd.prog W = .ok (.enter fn args) W) (Q : List UInt8 → World → Prop) (hQ : ∀ bs' w', Q bs' w' → Blk w' (w.heap.size + 1) 90 #[.pointer (some ⟨w.heap.size, 0, none⟩)])
    (hc : Calls Tryd.prog fn (#[.pointer (some ⟨w.heap.size, 0, none⟩)] ++ caps) ((w.alloc (.cells #[.slice A m c, .bool true, .bool false] 101)).alloc (.cells #[.pointer (some ⟨w.heap.size, 0, none⟩)] 90)) (FPan w.heap.size X Q)) :
    Calls Tryd.prog 54 #[.slice A m c, .func (.func fn) #[] caps] w (RRes w.heap.size Q false) := by
  have C := Lib.hid (lets_pan (w := w.alloc (.cells #[.slice A m c, .bool true, .bool false] 101)) fn caps hE Q (by simpa using hQ) hc)
  clear hQ hc hE
  go_enter_defers Tryd.func54, Tryd.ntmps54
  go_wp2_with fail
  refine C.out.mono ?_
  rintro e w3 ⟨bs', w1, rfl, hr, hq1, hb1⟩
  obtain ⟨A', m', c', hb, hby, hmc, hml, hap⟩ := hr.ex
  clear hr hap hmc
  go_wp2
  refine leaves_cons (f := 65) (args := #[.pointer (some ⟨w.heap.size, 0, none⟩)]) (by simp) (by simp [go_sem]) ?_
  refine (end_any _ hb).mono ?_
  rintro e u' w'' ⟨rfl, rfl, hk⟩
  simp [Leaves, settle, results, Tryd.results54, go_sem]
  exact ⟨bs', w1, w3, rfl, hq1, hb1, hk⟩
end Go.Proofs.YtdhiofbimebbkaaDoor
