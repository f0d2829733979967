/- A Reader in memory; its calls. -/
import Derived.Test.YtdhiofbimebbkaaDoorPn
namespace Go.Proofs.YtdhiofbimebbkaaDoor
open Go.RowKit

/-- The Reader at rp reads these bytes, which lie in a block of X. -/
structure RdAt (w : World) (rp : Nat) (X : Nat → Prop) (bs : List UInt8) (rf : Bool) : Prop where
  ex : ∃ A m c, Blk w rp 101 #[.slice A m c, .bool true, .bool rf] ∧ BytesAt w A m bs ∧ m ≤ c ∧ m ≤ maxLen ∧ ∀ b o, A = some ⟨b, o, none⟩ → X b
  nx : ¬ X rp
/-- What a Reader panics with. -/
def refusE (rp : Nat) : Ending := .panicked [{ v := .iface 106 (.agg #[.pointer (some ⟨rp, 0, none⟩)]), recovered := false }]
section
variable {w : World} {rp : Nat} {X : Nat → Prop} {bs : List UInt8}
set_option maxHeartbeats 400000 in
theorem need_yes {A : Option Addr} {m c : Nat} (h : Blk w rp 101 #[.slice A m c, .bool true, .bool false]) : Calls Tryd.prog 57 #[.pointer (some ⟨rp, 0, none⟩), .bool true] w fun e w' => e = .returned (.tuple #[]) ∧ Blk w' rp 101 #[.slice A m c, .bool true, .bool false] ∧ Kept (· = rp) w w' := by
  obtain ⟨c0, c1, c2, f0, f1, f2⟩ := blk3 h
  have H := Lib.hid h
  clear h
  go_enter Tryd.func57, Tryd.ntmps57
  go_wp2
  go_end0
  exact ⟨rfl, H.out.set_ 2 (.bool false), (Kept.refl (· = rp) w).set_ (p := ⟨rp, 2, none⟩) (.inl rfl) _⟩
set_option maxHeartbeats 400000 in
theorem need_no {A : Option Addr} {m c : Nat} (h : Blk w rp 101 #[.slice A m c, .bool true, .bool false]) : Calls Tryd.prog 57 #[.pointer (some ⟨rp, 0, none⟩), .bool false] w fun e w' => e = refusE rp ∧ Blk w' rp 101 #[.slice A m c, .bool true, .bool true] ∧ Kept (· = rp) w w' := by
  obtain ⟨c0, c1, c2, f0, f1, f2⟩ := blk3 h
  have H := Lib.hid h
  clear h
  go_enter Tryd.func57, Tryd.ntmps57
  go_wp2
  exact ⟨rfl, rfl, H.out.set_ 2 (.bool true), (Kept.refl (· = rp) w).set_ (p := ⟨rp, 2, none⟩) (.inl rfl) _⟩
/-- What a call of a Reader has made. -/
def RdRes (w : World) (rp : Nat) (X : Nat → Prop) (bs : List UInt8) (v : Value) (e : Ending) (w' : World) : Prop := e = .returned v ∧ RdAt w' rp X bs false ∧ Kept (· = rp) w w'
def RdNot (w : World) (rp : Nat) (X : Nat → Prop) (bs : List UInt8) (e : Ending) (w' : World) : Prop := e = refusE rp ∧ RdAt w' rp X bs true ∧ Kept (· = rp) w w'
theorem RdAt.keep {w' : World} {rf : Bool} (h : RdAt w rp X bs rf) (h0 : w'.heap[rp]? = w.heap[rp]?) (h1 : ∀ b, X b → b < w.heap.size → w'.heap[b]? = w.heap[b]?) (hs : w.heap.size ≤ w'.heap.size) : RdAt w' rp X bs rf := by
  obtain ⟨A, m, c, hb, hby, h3, h4, h5⟩ := h.ex
  exact ⟨⟨A, m, c, h0.trans hb, hby.keep (fun _ b o e hlt => h1 b (h5 b o e) hlt) hs, h3, h4, h5⟩, h.nx⟩
theorem RdAt.lt {rf : Bool} (h : RdAt w rp X bs rf) : rp < w.heap.size := by
  obtain ⟨A, m, c, hb, _⟩ := h.ex
  exact hb.lt
set_option maxHeartbeats 1000000 in
set_option maxRecDepth 100000 in
theorem rdNum_yes (h : RdAt w rp X bs false) {n k : Nat} (hg : getL bs = (n, k)) (hk : 0 < k) : Calls Tryd.prog 56 #[.pointer (some ⟨rp, 0, none⟩)] w (RdRes w rp X (bs.drop k) (.int .i64 (n : Nat))) := by
  obtain ⟨A, m, c, hb, hby, hmc, hml, hap⟩ := h.ex
  have hbd := getL_bd bs
  rw [hg] at hbd
  have hbl := hby.1
  obtain ⟨_, hk9, hkm, hn⟩ : 0 < k ∧ k ≤ 9 ∧ k ≤ bs.length ∧ n ≤ 4611686018427387904 := by
    rcases hbd with h0 | h0
    · injection h0 with _ h1; omega
    · exact h0
  obtain ⟨b, o, rfl, hbw, _⟩ := hby.2 (by omega)
  have C0 := Lib.hid (number_any (c := c) hby hml)
  rw [hg, show numV (n, k) = .tuple #[.int .i64 (n : Nat), .int .i64 (k : Nat)] from rfl] at C0
  have hkI : (0 : Int) < (k : Int) := by omega
  have HBY := Lib.hid hby
  have HB := Lib.hid hb
  have hxb : X b := hap b o rfl
  have hne : b ≠ rp := fun e => h.nx (by rw [← e]; exact hxb)
  have HNX := Lib.hid h.nx
  have HXB := Lib.hid hxb
  clear hxb
  obtain ⟨c0, c1, c2, f0, f1, f2⟩ := blk3 hb
  clear hby hbd hg h hb hap
  unfold maxLen at hml
  by_cases hcap : c = k
  · subst hcap
    go_enter Tryd.func56, Tryd.ntmps56
    go_wp2_with fail
    ((with_reducible refine C0.out.mono ?_))
    rintro e w' ⟨rfl, rfl⟩
    go_wp2_with fail
    ((with_reducible refine (need_yes HB.out).mono ?_))
    rintro e w' ⟨rfl, hb2, kp⟩
    obtain ⟨d0, d1, d2, g0, g1, g2⟩ := blk3 hb2
    have HB2 := Lib.hid hb2
    clear hb2
    have HF := Lib.hid (fun (W : World) => (⟨by rw [List.length_drop, hbl]; omega, fun h => by omega⟩ : BytesAt W (some ⟨b, o, none⟩) 0 (bs.drop c)))
    go_wp2
    go_ret
    exact ⟨rfl, ⟨⟨_, _, _, HB2.out.set_ 0 _, HF.out _, by omega, by unfold maxLen; omega, fun b' o' e => by injection e with e; injection e with e _ _; rw [← e]; exact HXB.out⟩, HNX.out⟩, kp.set_ (p := ⟨rp, 0, none⟩) (.inl rfl) _⟩
  · go_enter Tryd.func56, Tryd.ntmps56
    go_wp2_with fail
    ((with_reducible refine C0.out.mono ?_))
    rintro e w' ⟨rfl, rfl⟩
    go_wp2_with fail
    ((with_reducible refine (need_yes HB.out).mono ?_))
    rintro e w' ⟨rfl, hb2, kp⟩
    obtain ⟨d0, d1, d2, g0, g1, g2⟩ := blk3 hb2
    have HB2 := Lib.hid hb2
    clear hb2
    have HF := Lib.hid ((HBY.out.drop_ (k := k) (by omega)).kept kp (fun b' o' e => by injection e with e; injection e with e _ _; omega))
    go_wp2
    go_ret
    refine ⟨rfl, ⟨⟨_, _, _, HB2.out.set_ 0 _, HF.out.keep (fun _ b' o' e _ => Below.heap_setCell _ _ _ _ ?_) (by simp [World.setCell]), by omega, by unfold maxLen; omega, fun b' o' e => ?_⟩, HNX.out⟩, kp.set_ (p := ⟨rp, 0, none⟩) (.inl rfl) _⟩
    · injection e with e; injection e with e _ _; show b' ≠ rp; omega
    · injection e with e; injection e with e _ _; rw [← e]; exact HXB.out
set_option maxHeartbeats 1000000 in
set_option maxRecDepth 100000 in
theorem rdNum_no (h : RdAt w rp X bs false) (hg : getL bs = (0, 0)) : Calls Tryd.prog 56 #[.pointer (some ⟨rp, 0, none⟩)] w (RdNot w rp X bs) := by
  obtain ⟨A, m, c, hb, hby, hmc, hml, hap⟩ := h.ex
  have C0 := Lib.hid (number_any (c := c) hby hml)
  rw [hg, show numV (0, 0) = .tuple #[.int .i64 0, .int .i64 0] from rfl] at C0
  have HBY := Lib.hid hby
  have HB := Lib.hid hb
  have HAP := Lib.hid hap
  have HNX := Lib.hid h.nx
  obtain ⟨c0, c1, c2, f0, f1, f2⟩ := blk3 hb
  clear hby hg h hb hap
  go_enter Tryd.func56, Tryd.ntmps56
  go_wp2_with fail
  ((with_reducible refine C0.out.mono ?_))
  rintro e w' ⟨rfl, rfl⟩
  go_wp2_with fail
  ((with_reducible refine (need_no HB.out).mono ?_))
  rintro e w' ⟨rfl, hb2, kp⟩
  unfold refusE
  go_wp2
  exact ⟨rfl, rfl, ⟨⟨A, m, c, hb2, HBY.out.kept kp (fun b o e h => HNX.out (by rw [← show b = rp from h]; exact HAP.out b o e)), hmc, hml, HAP.out⟩, HNX.out⟩, kp⟩
/-- The text of at most so many bytes with which bytes begin, and how many it has with its number; 0: none. -/
def getT (most : Int) (bs : List UInt8) : List UInt8 × Nat :=
  if (getL bs).2 = 0 ∨ most < ((getL bs).1 : Int) ∨ bs.length < (getL bs).2 + (getL bs).1 then ([], 0) else ((bs.drop (getL bs).2).take (getL bs).1, (getL bs).2 + (getL bs).1)
end
end Go.Proofs.YtdhiofbimebbkaaDoor
