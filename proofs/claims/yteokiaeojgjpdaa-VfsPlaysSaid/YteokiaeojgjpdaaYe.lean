/- The document's own Do: what its walks share. -/
import Derived.Test.YteokiaeojgjpdaaYd
namespace Go.Proofs.Yteokiaeojgjpdaa
open Go.RowKit Go.Maps

theorem vlook_of {nm : List UInt8} {t : T3} : ∀ {V : FV}, RiseV V → t ∈ V → t.1 = nm → vlook nm V = some t
  | [], _, h, _ => by cases h
  | y :: r, hr, h, hn => by
    have hr2 := List.pairwise_cons.1 hr
    rcases List.mem_cons.1 h with rfl | h
    · exact vlook_head hn
    · have : y.1 ≠ nm := fun e => before_ne (hr2.1 t h) (by rw [e, hn])
      rw [vlook_tail this]; exact vlook_of hr2.2 h hn
theorem vlook_no {nm : List UInt8} {V : FV} (h : ∀ t ∈ V, t.1 ≠ nm) : vlook nm V = none := by
  unfold vlook
  exact List.find?_eq_none.2 fun t ht => by simpa using h t ht
/-- What Do answers: the state and the error that the plain words give. -/
def DoPost (w : World) (Y : Nat → Prop) (most : Int) (r : Int × Sta) (e : Ending) (w' : World) : Prop :=
  ∃ A n c fs fu, e = .returned (.tuple #[.agg #[.slice A n c, .int .i64 most, .int .i64 fu, .bool r.2.down], .int .i64 r.1]) ∧ RefAt w' (fun b => Y b ∨ (w.heap.size ≤ b ∧ b < w'.heap.size)) A n fs ∧ fs.map FR.t = r.2.V ∧ (r.2.down = false → fu = (r.2.fuse : Nat)) ∧ Below w.heap.size w w'
/-- The same files as before. -/
theorem do_same {w W : World} {Y : Nat → Prop} {A : Option Addr} {n c : Nat} {fs : List FR} {most fu code : Int} {r : Int × Sta} {dn : Bool} (h : RefAt w Y A n fs) (hY : Low w.heap.size Y) (hb : Below w.heap.size w W) (hV : fs.map FR.t = r.2.V) (hd : dn = r.2.down) (hc : code = r.1) (hfu : r.2.down = false → fu = (r.2.fuse : Nat)) :
    DoPost w Y most r (.returned (.tuple #[.agg #[.slice A n c, .int .i64 most, .int .i64 fu, .bool dn], .int .i64 code])) W := by
  subst hd hc
  exact ⟨A, n, c, fs, fu, rfl, (h.below hY hb).mono fun b hb => .inl hb, hV, hfu, hb⟩
/-- The files that a call has just made. -/
theorem do_made {w W W' : World} {Y : Nat → Prop} {A : Option Addr} {n c : Nat} {fs : List FR} {most fu code : Int} {r : Int × Sta} {dn : Bool} (hW : Below w.heap.size w W) (h : RefAt W' (fun b => Y b ∨ (W.heap.size ≤ b ∧ b < W'.heap.size)) A n fs) (hb : Below w.heap.size w W') (hV : fs.map FR.t = r.2.V) (hd : dn = r.2.down) (hc : code = r.1) (hfu : r.2.down = false → fu = (r.2.fuse : Nat)) :
    DoPost w Y most r (.returned (.tuple #[.agg #[.slice A n c, .int .i64 most, .int .i64 fu, .bool dn], .int .i64 code])) W' := by
  subst hd hc
  have := hW.size
  exact ⟨A, n, c, fs, fu, rfl, h.mono fun b hb => by rcases hb with h1 | h1; exact .inl h1; exact .inr ⟨by omega, h1.2⟩, hV, hfu, hb⟩
theorem below3 (w : World) (o1 o2 o3 : Obj) : Below w.heap.size w (((w.alloc o1).alloc o2).alloc o3) := by
  have h1 := (Below.refl w.heap.size w).alloc (Nat.le_refl _) o1
  have h2 := h1.alloc h1.size o2
  exact h2.alloc h2.size o3
theorem below_set4 {N : Nat} {w W : World} (h : Below N w W) {p : Nat} (hp : N ≤ p) (a b c d : Value) : Below N w ((((W.setCell ⟨p, 0, none⟩ a).setCell ⟨p, 1, none⟩ b).setCell ⟨p, 2, none⟩ c).setCell ⟨p, 3, none⟩ d) :=
  ((((h.setCell (p := ⟨p, 0, none⟩) hp a).setCell (p := ⟨p, 1, none⟩) hp b).setCell (p := ⟨p, 2, none⟩) hp c).setCell (p := ⟨p, 3, none⟩) hp d)
theorem RefAt.set_ {w : World} {Y : Nat → Prop} {A : Option Addr} {n : Nat} {fs : List FR} (h : RefAt w Y A n fs) {p : Addr} (hp : ¬ Y p.block) (u : Value) : RefAt (w.setCell p u) Y A n fs :=
  h.keep (fun b hb => Below.heap_setCell w p u b (fun e => hp (e ▸ hb))) (by simp [World.setCell])
/-- The end of a call that has made its files by another call: they are stored in its answer's cells. -/
theorem do_end2 {w w5 : World} {Y : Nat → Prop} {A : Option Addr} {n c N : Nat} {fs : List FR} {most fu code : Int} {r : Int × Sta} {dn : Bool} {p : Nat} (hW : Below w.heap.size w w5) (hp : w.heap.size ≤ p) (hpN : p < N) (hY : Low w.heap.size Y) (h : RefAt w5 (fun b => Y b ∨ (N ≤ b ∧ b < w5.heap.size)) A n fs)
    (hV : fs.map FR.t = r.2.V) (hd : dn = r.2.down) (hc : code = r.1) (hfu : r.2.down = false → fu = (r.2.fuse : Nat)) (x0 x1 x2 x3 : Value) :
    DoPost w Y most r (.returned (.tuple #[.agg #[.slice A n c, .int .i64 most, .int .i64 fu, .bool dn], .int .i64 code])) ((((w5.setCell ⟨p, 0, none⟩ x0).setCell ⟨p, 1, none⟩ x1).setCell ⟨p, 2, none⟩ x2).setCell ⟨p, 3, none⟩ x3) := by
  subst hd hc
  have hn : ¬ (Y p ∨ (N ≤ p ∧ p < w5.heap.size)) := by
    rintro (h1 | h1)
    · have := hY p h1; omega
    · omega
  have h4 := (((h.set_ (p := ⟨p, 0, none⟩) hn x0).set_ (p := ⟨p, 1, none⟩) hn x1).set_ (p := ⟨p, 2, none⟩) hn x2).set_ (p := ⟨p, 3, none⟩) hn x3
  have hsz : ((((w5.setCell ⟨p, 0, none⟩ x0).setCell ⟨p, 1, none⟩ x1).setCell ⟨p, 2, none⟩ x2).setCell ⟨p, 3, none⟩ x3).heap.size = w5.heap.size := by simp [World.setCell]
  refine ⟨A, n, c, fs, fu, rfl, h4.mono fun b hb => ?_, hV, hfu, below_set4 hW hp x0 x1 x2 x3⟩
  rw [hsz]
  rcases hb with h1 | h1
  · exact .inl h1
  · exact .inr ⟨by omega, h1.2⟩
theorem do_end {w E w5 : World} {Y : Nat → Prop} {A : Option Addr} {n c : Nat} {fs : List FR} {most fu code : Int} {r : Int × Sta} {dn : Bool} {p : Nat} (hE : Below w.heap.size w E) (hp : w.heap.size ≤ p) (hpE : p < E.heap.size) (hY : Low w.heap.size Y) (h : RefAt w5 (fun b => Y b ∨ (E.heap.size ≤ b ∧ b < w5.heap.size)) A n fs) (hb : Below E.heap.size E w5)
    (hV : fs.map FR.t = r.2.V) (hd : dn = r.2.down) (hc : code = r.1) (hfu : r.2.down = false → fu = (r.2.fuse : Nat)) (x0 x1 x2 x3 : Value) :
    DoPost w Y most r (.returned (.tuple #[.agg #[.slice A n c, .int .i64 most, .int .i64 fu, .bool dn], .int .i64 code])) ((((w5.setCell ⟨p, 0, none⟩ x0).setCell ⟨p, 1, none⟩ x1).setCell ⟨p, 2, none⟩ x2).setCell ⟨p, 3, none⟩ x3) :=
  do_end2 (hE.trans (hb.mono hE.size)) hp hpE hY h hV hd hc hfu x0 x1 x2 x3
/-- Both calls' new blocks. -/
theorem do_span {w5 w6 : World} {Y : Nat → Prop} {A : Option Addr} {n N M : Nat} {fs : List FR} (h : RefAt w6 (fun b => (Y b ∨ (N ≤ b ∧ b < w5.heap.size)) ∨ (M ≤ b ∧ b < w6.heap.size)) A n fs) (h5 : w5.heap.size ≤ M) (h6 : M ≤ w6.heap.size) (hN : N ≤ w5.heap.size) : RefAt w6 (fun b => Y b ∨ (N ≤ b ∧ b < w6.heap.size)) A n fs :=
  h.mono fun b hb => by
    rcases hb with (h1 | h1) | h1
    · exact .inl h1
    · exact .inr ⟨h1.1, by omega⟩
    · exact .inr ⟨by omega, h1.2⟩
/-- A byte more behind a row of the call's own. -/
theorem pushB {w W : World} {v : Value} {xs : List UInt8} {z : UInt8} {B : Nat} (ty : TypeId) (ho : W.ownsRow B 5 1 v xs.length (xs.map u8V)) (hB : B ≤ W.heap.size) (hbel : Below B w W) (hl : xs.length + 1 ≤ 1000000000) (q : Value) (hq : q = u8V z) :
    ∃ A' c' W', (Builtin.append_ #[44, 44] ty #[v, .slice (some ⟨W.heap.size, 0, none⟩) 1 1]).run Try.prog (W.alloc (.cells #[q] 5)) = .ok (.slice A' (xs.length + 1) c') W' ∧ W'.ownsRow B 5 1 (.slice A' (xs.length + 1) c') (xs ++ [z]).length ((xs ++ [z]).map u8V) ∧ Below B w W' := by
  subst hq
  have h0 := row_base (ho.alloc (.cells #[u8V z] 5)) (Nat.zero_le B)
  obtain ⟨A', c', W', h1, h2, h3, h4⟩ := append_bytes (c := 1) ty h0 (bytes_new W [z] (0, 0)) (by simpa using hl)
  have hlt : ∀ r, v.ownBlock = some r → B ≤ r := fun r hr => (ho.lt r hr).1
  have hb2 : ∀ r, (Value.slice A' (xs.length + 1) c').ownBlock = some r → B ≤ r := fun r hr => by
    rcases h4 with h4 | h4
    · have h4' : (Value.slice A' (xs.length + 1) c').ownBlock = v.ownBlock := h4
      rw [h4'] at hr; exact hlt r hr
    · have h4' : (Value.slice A' (xs.length + 1) c').ownBlock = some (W.alloc (.cells #[u8V z] 5)).heap.size := h4
      rw [h4'] at hr; injection hr with hr; rw [← hr]; simp; omega
  exact ⟨A', c', W', h1, row_at h2 hb2, (hbel.alloc hB _).grown h3 (by simp; omega) hlt⟩
theorem takeB {xs : List UInt8} {j : Nat} {z : UInt8} (h : xs[j]? = some z) : xs.take (j + 1) = xs.take j ++ [z] := by
  obtain ⟨hl, rfl⟩ := List.getElem?_eq_some_iff.1 h
  exact List.take_succ_eq_append_getElem hl
theorem rowFO {w : World} {B : Nat} {v : Value} {xs : List UInt8} (h : w.ownsRow B 5 1 v xs.length (xs.map u8V)) : ∃ A c, v = .slice A xs.length c ∧ BytesAt w A xs.length xs ∧ (xs.length ≤ c ∧ (A = none → c = 0)) ∧ ∀ b o, A = some ⟨b, o, none⟩ → B ≤ b := by
  obtain ⟨A, c, e, hb, hB⟩ := row_bytes h
  subst e
  refine ⟨A, c, rfl, hb, ⟨?_, fun hA => ?_⟩, hB⟩
  · obtain ⟨A', c', e, h1, _⟩ := row_shape (row_base h (Nat.zero_le _))
    injection e with _ _ e; omega
  · subst hA
    rcases h.2 with ⟨e, _⟩ | ⟨g, cap, cur, e, _⟩
    · injection e
    · injection e with e; cases e
theorem RiseV.del {V : FV} (h : RiseV V) (nm : List UInt8) : RiseV (vdel nm V) := List.Pairwise.filter _ h
theorem mayC_yes {n : Nat} (h : 0 < n ∧ n ≤ 40) : mayC false n = 0 := by unfold mayC; rw [if_neg (by simp), if_neg (by omega)]
theorem mayC_no {n : Nat} (h : ¬ (0 < n ∧ n ≤ 40)) : mayC false n = 1 := by unfold mayC; rw [if_neg (by simp), if_pos (by omega)]
end Go.Proofs.Yteokiaeojgjpdaa
