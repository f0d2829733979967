/- PackReads: the calls in plain words; what the function that reads has made. -/
import Derived.Test.YteokiaeojgjpdaaQb
import Derived.Test.YteokiaeojgjpdaaRb
import Derived.Test.YteokiaeojgjpdaaPf
namespace Go.Proofs.Yteokiaeojgjpdaa
open Go.RowKit Go.Maps

/-- What one call adds: numbers, texts; the rest behind it. none: refused. -/
def stepC (c : Int) (rest : List UInt8) : Option (List Nat × List (List UInt8) × List UInt8) :=
  if c = 0 then (if (getL rest).2 = 0 then none else some ([(getL rest).1], [], rest.drop (getL rest).2))
  else if c = 1 then (if (getL rest).2 = 0 ∨ 1000 < (getL rest).1 then none else some ([(getL rest).1], [], rest.drop (getL rest).2))
  else if c = 2 then (if (getT 40 rest).2 = 0 then none else some ([], [(getT 40 rest).1], rest.drop (getT 40 rest).2))
  else some ([], [], rest)
structure RSt where
  nums : List Nat
  texts : List (List UInt8)
  left : List Nat
  rest : List UInt8
def RSt.add (s : RSt) (r : List Nat × List (List UInt8) × List UInt8) : RSt := ⟨s.nums ++ r.1, s.texts ++ r.2.1, s.left ++ [r.2.2.length], r.2.2⟩
/-- All calls, one behind the other; whether none was refused. -/
def goC : List Int → RSt → RSt × Bool
  | [], s => (s, true)
  | c :: cs, s => match stepC c s.rest with
    | none => (s, false)
    | some r => goC cs (s.add r)
theorem goC_step {c : Int} {cs : List Int} {s : RSt} {r : List Nat × List (List UInt8) × List UInt8} (h : stepC c s.rest = some r) : goC (c :: cs) s = goC cs (s.add r) := by rw [goC, h]
theorem goC_none {c : Int} {cs : List Int} {s : RSt} (h : stepC c s.rest = none) : goC (c :: cs) s = (s, false) := by rw [goC, h]
theorem goC_nil (s : RSt) : goC [] s = (s, true) := rfl
def nV (n : Nat) : Value := .int .i64 n
def tV (l : List UInt8) : Value := .string ⟨l.toArray⟩
theorem i64Info : (Try.prog.info? 2).map (fun i => (i.zero, i.size, i.bytes)) = some (some (.int .i64 0), 1, 8) := by kernel_rfl
theorem intInfo : (Try.prog.info? 3).map (fun i => (i.zero, i.size, i.bytes)) = some (some (.int .i64 0), 1, 8) := by kernel_rfl
theorem textInfo : (Try.prog.info? 9).map (fun i => (i.zero, i.size, i.bytes)) = some (some (.string ⟨#[]⟩), 1, 16) := by kernel_rfl
theorem info_partsR {P : Program} {t : TypeId} {z : Value} {n m : Nat} (h : (P.info? t).map (fun i => (i.zero, i.size, i.bytes)) = some (some z, n, m)) : ∃ i, P.info? t = some i ∧ i.zero = some z ∧ i.size = n ∧ i.bytes = m := by
  cases hi : P.info? t with
  | none => rw [hi] at h; cases h
  | some i =>
    rw [hi] at h
    simp only [Option.map_some, Option.some.injEq, Prod.mk.injEq] at h
    exact ⟨i, rfl, h.1, h.2.1, h.2.2⟩
/-- A variable that holds a slice of one-cell elements, in a row of its own: the variable's block p, the row's block g. -/
structure VarAt (w : World) (B : Nat) (tS tE : TypeId) (p : Nat) (U : Value) (xs : List Value) : Prop where
  blk : Blk w p tS #[U]
  row : w.ownsRow B tE 1 U xs.length xs
  own : ∃ g, U.ownBlock = some g
theorem VarAt.keep {w w' : World} {B p : Nat} {tS tE : TypeId} {U : Value} {xs : List Value} (h : VarAt w B tS tE p U xs) (h1 : w'.heap[p]? = w.heap[p]?) (h2 : ∀ g, U.ownBlock = some g → w'.heap[g]? = w.heap[g]?) : VarAt w' B tS tE p U xs := by
  refine ⟨h1.trans h.blk, ⟨h.row.1, ?_⟩, h.own⟩
  rcases h.row.2 with h0 | ⟨g, cap, cur, e, x1, x2, x3⟩
  · exact .inl h0
  · exact .inr ⟨g, cap, cur, e, x1, (h2 g (by rw [e]; rfl)).trans x2, x3⟩
theorem VarAt.cells {w : World} {B p : Nat} {tS tE : TypeId} {U : Value} {xs : List Value} (h : VarAt w B tS tE p U xs) {g : Nat} (hg : U.ownBlock = some g) : ∃ cur, w.heap[g]? = some (.cells cur tE (0, 0)) := by
  rcases h.row.2 with ⟨e, _⟩ | ⟨g', cap, cur, e, _, hb, _⟩
  · rw [e] at hg; cases hg
  · rw [e] at hg
    obtain rfl : g' = g := by simpa [Value.ownBlock] using hg
    exact ⟨cur, hb⟩
theorem apart_ty {w : World} {g g' : Nat} {cs cs' : Array Value} {t t' : TypeId} {f f' : Nat × Nat} (h1 : w.heap[g]? = some (.cells cs t f)) (h2 : w.heap[g']? = some (.cells cs' t' f')) (h : t ≠ t') : g ≠ g' := by
  rintro rfl
  rw [h1] at h2
  injection h2 with h2
  injection h2 with _ h2 _
  exact h h2
/-- append of one element to such a row. -/
theorem append_one {w : World} {B q : Nat} {tS tE : TypeId} {z : Value} {bytes : Nat} (hS : Try.prog.underlying tS = some (.slice tE)) (hI : (Try.prog.info? tE).map (fun i => (i.zero, i.size, i.bytes)) = some (some z, 1, bytes)) (hz : z.cells.size = 1) (hby : bytes ≤ 16) {U x : Value} {xs : List Value} (ty : TypeId)
    (hown : w.ownsRow B tE 1 U xs.length xs) (hq : Blk w q tE #[x]) (hx : x.oneCell' = true) (hl : xs.length + 1 ≤ 1000000000) (hB : B ≤ w.heap.size) :
    ∃ v' w', (Builtin.append_ #[tS, tS] ty #[U, .slice (some ⟨q, 0, none⟩) 1 1]).run Try.prog w = .ok v' w' ∧ w'.ownsRow B tE 1 v' (xs ++ [x]).length (xs ++ [x]) ∧ w.grownBy w' U.ownBlock ∧ (v'.ownBlock = U.ownBlock ∨ v'.ownBlock = some w.heap.size) ∧ ∃ g, v'.ownBlock = some g := by
  obtain ⟨i0, hi0, hz0, hz1, hz2⟩ := info_partsR hI
  obtain ⟨v', w', e1, e2, e3, e4, e5⟩ := run_append_own_at (P := Try.prog) (w := w) B tS ty tE i0 z 1 bytes hS hi0 hz0 hz1 hz2 hz (by decide) U xs.length xs hown ⟨q, 0, none⟩ 1 1 [x] rfl (fun j u hj => by
    match j, hj with
    | 0, hj => simp at hj; subst hj; exact hq.cell 0) (fun u hu => by simp at hu; subst hu; exact hx) (by unfold maxLen; omega) (by have : (xs.length + 1) * bytes ≤ 1000000000 * 16 := Nat.mul_le_mul hl hby; omega) hB
  have hg : ∃ g, v'.ownBlock = some g := by
    rcases e2.2 with ⟨_, h0⟩ | ⟨g, cap, cur, e, _⟩
    · omega
    · exact ⟨g, by rw [e]; rfl⟩
  rw [show xs.length + 1 = (xs ++ [x]).length by simp] at e2
  exact ⟨v', w', e1, e2, e3, e5, hg⟩
/-- An element put to such a variable: 'v = append(v, x)'. -/
theorem var_put {w : World} {B p : Nat} {tS tE : TypeId} {z : Value} {bytes : Nat} (hS : Try.prog.underlying tS = some (.slice tE)) (hI : (Try.prog.info? tE).map (fun i => (i.zero, i.size, i.bytes)) = some (some z, 1, bytes)) (hz : z.cells.size = 1) (hby : bytes ≤ 16) (hne : tS ≠ tE) {U x : Value} {xs : List Value} (ty : TypeId)
    (h : VarAt w B tS tE p U xs) (hx : x.oneCell' = true) (hl : xs.length + 1 ≤ 1000000000) (hB : B ≤ w.heap.size) :
    ∃ v' w3, (Builtin.append_ #[tS, tS] ty #[U, .slice (some ⟨w.heap.size, 0, none⟩) 1 1]).run Try.prog (w.alloc (.cells #[x] tE)) = .ok v' w3 ∧ Blk w3 p tS #[U] ∧ VarAt (w3.setCell ⟨p, 0, none⟩ v') B tS tE p v' (xs ++ [x]) ∧
      (∀ j, j < w.heap.size → j ≠ p → U.ownBlock ≠ some j → (w3.setCell ⟨p, 0, none⟩ v').heap[j]? = w.heap[j]?) ∧ w.heap.size ≤ (w3.setCell ⟨p, 0, none⟩ v').heap.size ∧ (∀ N, N ≤ p → N ≤ B → N ≤ w.heap.size → Below N w (w3.setCell ⟨p, 0, none⟩ v')) ∧ ∃ A1 n1 c1, v' = .slice A1 n1 c1 := by
  have hpl := h.blk.lt
  have hap : ∀ g, U.ownBlock = some g → g ≠ p := fun g hg e => by
    obtain ⟨cur, hc⟩ := h.cells hg
    exact apart_ty (t := tE) (t' := tS) hc h.blk (fun e' => hne e'.symm) e
  have hrl : ∀ g, U.ownBlock = some g → B ≤ g ∧ g < w.heap.size := fun g hg => h.row.lt g hg
  obtain ⟨v', w3, e1, e2, e3, e4, g', hg'⟩ := append_one hS hI hz hby ty (h.row.alloc (.cells #[x] tE)) (Blk.new w tE #[x]) hx hl (by simp; omega)
  have hb : Blk w3 p tS #[U] := (h.blk.alloc (.cells #[x] tE)).grown e3 (fun e => hap p e.symm rfl)
  have hne' : ∀ g, v'.ownBlock = some g → g ≠ p := fun g hg e => by
    rcases e4 with e' | e'
    · rw [e'] at hg; exact hap g hg e
    · rw [e'] at hg; injection hg with hg; simp at hg; omega
  refine ⟨v', w3, e1, hb, ⟨hb.set_ 0 v', ?_, g', hg'⟩, fun j hj h1 h2 => ?_, ?_, fun N h1 h2 h3 => ?_, ?_⟩
  · refine ⟨e2.1, ?_⟩
    rcases e2.2 with h0 | ⟨g, cap, cur, e, x1, x2, x3⟩
    · exact .inl h0
    · refine .inr ⟨g, cap, cur, e, x1, ?_, x3⟩
      rw [Below.heap_setCell _ _ _ _ (by show g ≠ p; exact hne' g (by rw [e]; rfl))]
      exact x2
  · rw [Below.heap_setCell _ _ _ _ h1]
    exact (e3.block j (by simp; omega) (fun e => h2 e.symm)).trans (Below.heap_alloc _ _ _ hj)
  · have := e3.size
    simp [World.setCell] at this ⊢; omega
  · exact (((Below.refl N w).alloc h3 _).grown e3 (by simp; omega) (fun j hj => by have := (hrl j hj).1; omega)).setCell h1 _
  · rcases e2.2 with ⟨e, _⟩ | ⟨g, cap, cur, e, _⟩
    · exact ⟨_, _, _, e⟩
    · exact ⟨_, _, _, e⟩
/-- What the function that reads finds: the Reader, the calls, what has been read. -/
structure ClsAt (N0 B rp p3 p5 p6 p7 box : Nat) (X : Nat → Prop) (A : Option Addr) (m c : Nat) (calls : List Int) (s : RSt) (rf : Bool) (w : World) : Prop where
  rd : RdAt w rp X s.rest rf
  bx : Blk w box 76 #[.pointer (some ⟨rp, 0, none⟩)]
  c3 : Blk w p3 55 #[.slice A m c]
  ci : IntsAt w A m calls
  v5 : ∃ U, VarAt w B 73 2 p5 U (s.nums.map nV)
  v6 : ∃ U, VarAt w B 74 9 p6 U (s.texts.map tV)
  v7 : ∃ U, VarAt w B 55 3 p7 U (s.left.map nV)
  low : N0 ≤ p3 ∧ N0 ≤ p5 ∧ N0 ≤ p6 ∧ N0 ≤ p7 ∧ N0 ≤ rp ∧ N0 ≤ box ∧ N0 ≤ B ∧ B ≤ w.heap.size ∧ p3 ≠ p7
  lowX : ∀ j, X j → j < N0
  lowA : ∀ b o, A = some ⟨b, o, none⟩ → b < N0
theorem IntsAt.keepN {w w' : World} {A : Option Addr} {m : Nat} {zs : List Int} (h : IntsAt w A m zs) (hs : w.heap.size ≤ w'.heap.size) (hk : ∀ b o, A = some ⟨b, o, none⟩ → w'.heap[b]? = w.heap[b]?) : IntsAt w' A m zs := by
  refine ⟨h.1, fun hm => ?_⟩
  obtain ⟨b, o, e, hlt, hc⟩ := h.2 hm
  exact ⟨b, o, e, Nat.lt_of_lt_of_le hlt hs, fun i c hi => (World.cell?_of_block (a := ⟨b, o + i, none⟩) (hk b o e)).trans (hc i c hi)⟩
end Go.Proofs.Yteokiaeojgjpdaa
