/- PackReads: pack.Read over the function that reads, in plain words. -/
import Derived.Test.YteokiaeojgjpdaaRg
import Derived.Test.YteokiaeojgjpdaaRh
namespace Go.Proofs.Yteokiaeojgjpdaa
open Go.RowKit Go.Maps

theorem VarAt.keepK {w w' : World} {B : Nat} {tS tE : TypeId} {p : Nat} {U : Value} {xs : List Value} (h : VarAt w B tS tE p U xs) {Y : Nat → Prop} (hk : Kept Y w w') (h1 : ¬ Y p) (h2 : ∀ g, U.ownBlock = some g → ¬ Y g) : VarAt w' B tS tE p U xs :=
  h.keep (hk.block p h.blk.lt h1) fun g hg => by
    obtain ⟨cur, hc⟩ := h.cells hg
    exact hk.block g (Array.getElem?_eq_some_iff.1 hc).1 (h2 g hg)
/-- What the law finds behind its call of Read. -/
structure Got (N0 B p3 p5 p6 p7 : Nat) (A : Option Addr) (m c : Nat) (s : RSt) (w : World) : Prop where
  c3 : Blk w p3 55 #[.slice A m c]
  v5 : ∃ U, VarAt w B 73 2 p5 U (s.nums.map nV)
  v6 : ∃ U, VarAt w B 74 9 p6 U (s.texts.map tV)
  v7 : ∃ U, VarAt w B 55 3 p7 U (s.left.map nV)
set_option maxHeartbeats 2000000 in
set_option maxRecDepth 100000 in
theorem reads_run {N0 B p3 p5 p6 p7 n k m c : Nat} {D A : Option Addr} {calls : List Int} {bs : List UInt8} {sf : RSt} {ok : Bool} {w : World}
    (hb : BytesAt w D n bs) (hnk : n ≤ k) (hn : n ≤ maxLen) (hD : ∀ b o, D = some ⟨b, o, none⟩ → b < N0)
    (g : Got N0 B p3 p5 p6 p7 A m c ⟨[], [], [], bs⟩ w) (hci : IntsAt w A m calls) (hA : ∀ b o, A = some ⟨b, o, none⟩ → b < N0)
    (hlow : N0 ≤ p3 ∧ N0 ≤ p5 ∧ N0 ≤ p6 ∧ N0 ≤ p7 ∧ N0 ≤ B ∧ B ≤ w.heap.size ∧ p3 ≠ p7) (hm : m ≤ 2000000) (hg : goC calls ⟨[], [], [], bs⟩ = (sf, ok)) :
    Calls Try.prog 35 #[.slice D n k, .func (.func 36) #[] #[.pointer (some ⟨p3, 0, none⟩), .pointer (some ⟨p5, 0, none⟩), .pointer (some ⟨p6, 0, none⟩), .pointer (some ⟨p7, 0, none⟩)]] w
      fun e w' => e = .returned (.int .i64 (if ok && sf.rest.isEmpty then 0 else 80)) ∧ Got N0 B p3 p5 p6 p7 A m c sf w' ∧ Below N0 w w' := by
  obtain ⟨l1, l2, l3, l4, l5, l6, l7⟩ := hlow
  have hB0 : Below w.heap.size w ((w.alloc (.cells #[.slice D n k, .bool true, .bool false] 144)).alloc (.cells #[.pointer (some ⟨w.heap.size, 0, none⟩)] 76)) := ((Below.refl _ w).alloc (Nat.le_refl _) _).alloc (by simp) _
  have k0 := kept_below (X := fun _ => False) hB0
  have hN : N0 ≤ w.heap.size := by omega
  have hrd := rd_new w (X := fun j => j < N0) hb hnk hn hD (by omega)
  have hbx := box_new w D n k
  have hcl : ClsAt N0 B w.heap.size p3 p5 p6 p7 (w.heap.size + 1) (fun j => j < N0) A m c calls ⟨[], [], [], bs⟩ false ((w.alloc (.cells #[.slice D n k, .bool true, .bool false] 144)).alloc (.cells #[.pointer (some ⟨w.heap.size, 0, none⟩)] 76)) := by
    refine ⟨hrd, hbx, g.c3.kept k0 id, hci.keepN hB0.size fun b o e => k0.block b (by have := hA b o e; omega) id, ?_, ?_, ?_, ⟨l1, l2, l3, l4, hN, by omega, l5, by have := hB0.size; omega, l7⟩, fun j hj => hj, hA⟩
    · obtain ⟨U, h⟩ := g.v5; exact ⟨U, h.keepK k0 id fun _ _ => id⟩
    · obtain ⟨U, h⟩ := g.v6; exact ⟨U, h.keepK k0 id fun _ _ => id⟩
    · obtain ⟨U, h⟩ := g.v7; exact ⟨U, h.keepK k0 id fun _ _ => id⟩
  have C := reads1_any hcl hm hg
  have fin : ∀ {e : Ending} {w' : World} (_ : RRes w.heap.size (fun bs' w1 => bs' = sf.rest ∧ ClsAt N0 B w.heap.size p3 p5 p6 p7 (w.heap.size + 1) (fun j => j < N0) A m c calls sf (!ok) w1 ∧ Below N0 w w1) ok e w'), e = .returned (.int .i64 (if ok && sf.rest.isEmpty then 0 else 80)) ∧ Got N0 B p3 p5 p6 p7 A m c sf w' ∧ Below N0 w w' := by
    rintro e w' ⟨bs', w1, w2, rfl, ⟨rfl, hc, hb1⟩, hb2, hk⟩
    have k1 : Kept (· = w.heap.size) w1 w' := (kept_below (X := (· = w.heap.size)) hb2).trans hk (fun j hj => .inl hj)
    obtain ⟨cs, hrb⟩ := hc.rdBlk
    refine ⟨rfl, ⟨hc.c3.kept k1 (apart_ty hc.c3 hrb (by decide)), ?_, ?_, ?_⟩, hb1.trans (k1.below (by have := hb1.size; omega) (fun j hj => by omega))⟩
    · obtain ⟨U, h⟩ := hc.v5; exact ⟨U, hc.keepV k1 h (by decide) (by decide)⟩
    · obtain ⟨U, h⟩ := hc.v6; exact ⟨U, hc.keepV k1 h (by decide) (by decide)⟩
    · obtain ⟨U, h⟩ := hc.v7; exact ⟨U, hc.keepV k1 h (by decide) (by decide)⟩
  have hBN : Below N0 w ((w.alloc (.cells #[.slice D n k, .bool true, .bool false] 144)).alloc (.cells #[.pointer (some ⟨w.heap.size, 0, none⟩)] 76)) := ((Below.refl _ w).alloc hN _).alloc (by simp; omega) _
  cases ok with
  | true =>
    have F := C.mono (R' := FRet w.heap.size (fun j => j < N0) (fun bs' w1 => bs' = sf.rest ∧ ClsAt N0 B w.heap.size p3 p5 p6 p7 (w.heap.size + 1) (fun j => j < N0) A m c calls sf (!true) w1 ∧ Below N0 w w1)) (by
      rintro e w' ⟨rfl, h1, h2⟩
      exact ⟨sf.rest, rfl, h1.rd, rfl, h1, hBN.trans h2⟩)
    exact (read_ret (w := w) (A := D) (m := n) (c := k) (X := fun j => j < N0) 36 #[.pointer (some ⟨p3, 0, none⟩), .pointer (some ⟨p5, 0, none⟩), .pointer (some ⟨p6, 0, none⟩), .pointer (some ⟨p7, 0, none⟩)] (fun args W => by kernel_rfl) (fun bs' w1 => bs' = sf.rest ∧ ClsAt N0 B w.heap.size p3 p5 p6 p7 (w.heap.size + 1) (fun j => j < N0) A m c calls sf (!true) w1 ∧ Below N0 w w1) (fun bs' w' h => h.2.1.bx) F).mono fun e w' h => fin h
  | false =>
    have F := C.mono (R' := FPan w.heap.size (fun j => j < N0) (fun bs' w1 => bs' = sf.rest ∧ ClsAt N0 B w.heap.size p3 p5 p6 p7 (w.heap.size + 1) (fun j => j < N0) A m c calls sf (!false) w1 ∧ Below N0 w w1)) (by
      rintro e w' ⟨rfl, h1, h2⟩
      exact ⟨sf.rest, rfl, h1.rd, rfl, h1, hBN.trans h2⟩)
    exact (read_pan (w := w) (A := D) (m := n) (c := k) (X := fun j => j < N0) 36 #[.pointer (some ⟨p3, 0, none⟩), .pointer (some ⟨p5, 0, none⟩), .pointer (some ⟨p6, 0, none⟩), .pointer (some ⟨p7, 0, none⟩)] (fun args W => by kernel_rfl) (fun bs' w1 => bs' = sf.rest ∧ ClsAt N0 B w.heap.size p3 p5 p6 p7 (w.heap.size + 1) (fun j => j < N0) A m c calls sf (!false) w1 ∧ Below N0 w w1) (fun bs' w' h => h.2.1.bx) F).mono fun e w' h => fin h
end Go.Proofs.Yteokiaeojgjpdaa
