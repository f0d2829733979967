/- Clauses made ready: one, and all of a row, of texts that are looked for as they are and of what looks for none. -/
import Derived.Test.YtgcbcdbfeaepkaaHe
import Derived.Laws.MakeOwn
namespace Go.Proofs.Ytgcbcdbfeaepkaa
open Go.RowKit Go.Maps

/-- Where a text stands first. -/
def exF (l bs : List UInt8) : Option (Nat × Nat) :=
  match (List.range (bs.length + 1)).find? (fun f => decide (f + l.length ≤ bs.length ∧ (bs.drop f).take l.length = l)) with
  | some f => some (f, f + l.length)
  | none => none
theorem exF_some {l bs : List UInt8} {f : Nat} (h1 : f + l.length ≤ bs.length) (h2 : (bs.drop f).take l.length = l) (h3 : ∀ g, g < f → ¬ (g + l.length ≤ bs.length ∧ (bs.drop g).take l.length = l)) : exF l bs = some (f, f + l.length) := by
  unfold exF
  have : (List.range (bs.length + 1)).find? (fun f => decide (f + l.length ≤ bs.length ∧ (bs.drop f).take l.length = l)) = some f := by
    rw [List.find?_range_eq_some]
    refine ⟨by simpa using ⟨h1, h2⟩, by simp; omega, fun j hj => by have := h3 j hj; simp only [Bool.not_eq_true', decide_eq_false_iff_not]; exact this⟩
  rw [this]
theorem exF_none {l bs : List UInt8} (h : ∀ g, ¬ (g + l.length ≤ bs.length ∧ (bs.drop g).take l.length = l)) : exF l bs = none := by
  unfold exF
  have : (List.range (bs.length + 1)).find? (fun f => decide (f + l.length ≤ bs.length ∧ (bs.drop f).take l.length = l)) = none := by
    rw [List.find?_eq_none]
    intro x _
    have := h x
    simp only [decide_eq_true_eq]
    exact this
  rw [this]
theorem exF_of {l bs : List UInt8} {d : Nat} {a b : Int} {ok : Bool} (hg : GoodT d (exactT l)) (h : findR bs d (exactT l) a b ok) :
    (ok = false ∧ exF l bs = none) ∨ (ok = true ∧ ∃ f u : Nat, a = (f : Nat) ∧ b = (u : Nat) ∧ exF l bs = some (f, u) ∧ f ≤ u ∧ u ≤ bs.length) := by
  rcases h with ⟨e, _, _, hn⟩ | ⟨e, f, u, ea, eb, hf, hu, hm, _, hl⟩
  · refine .inl ⟨e, exF_none fun g ⟨h1, h2⟩ => hn g (g + l.length) (by omega) h1 ((exact_Mt l d g _ hg (by omega)).2 ⟨rfl, h1, h2⟩)⟩
  · obtain ⟨h1, h2, h3⟩ := (exact_Mt l d f u hg hf).1 hm
    refine .inr ⟨e, f, u, ea, eb, ?_, by omega, hu⟩
    rw [h1]
    exact exF_some (by omega) h3 fun g hg2 ⟨k1, k2⟩ => hl g hg2 (g + l.length) k1 ((exact_Mt l d g _ hg (by omega)).2 ⟨rfl, k1, k2⟩)
/-- A clause as it is said: its kind, its text. -/
structure Sp where
  kind : Int
  text : ByteArray
def SpOk (p : Sp) : Prop := (p.kind = 1 ∧ p.text.size ≤ 256) ∨ (4 ≤ p.kind ∧ p.kind ≤ 7)
def clOf (p : Sp) : Cl := ⟨p.kind, fun bs => if p.kind = 1 then exF p.text.data.toList bs else none⟩
def CmpQ (w : World) (p : Sp) (e : Ending) (w' : World) : Prop :=
  ∃ q Z, e = .returned (.tuple #[.agg #[.int .i64 p.kind, .pointer q], .int .i64 0]) ∧ ClOk w' Z (clOf p) (.pointer q) ∧ (∀ j, Z j → w.heap.size ≤ j ∧ j < w'.heap.size) ∧ Below w.heap.size w w'
theorem patP1_ {l : List UInt8} (h : l.length ≤ 256) : patP 1 l = (exactT l, 0, 0) := by
  unfold patP exactP
  rw [if_pos rfl, if_neg (by omega)]
set_option maxHeartbeats 1000000 in
set_option maxRecDepth 100000 in
theorem cmp1_any (p : Sp) (hp : SpOk p) (ag : Bool) (sA : Option Addr) (sn sc : Nat) (w : World) : Calls Try.prog 74 #[.agg #[.int .i64 p.kind, .string p.text, .bool ag, .slice sA sn sc]] w (CmpQ w p) := by
  obtain ⟨k, s⟩ := p
  have ba := (Below.refl w.heap.size w).alloc (Nat.le_refl _) (.cells #[.int .i64 k, .string s, .bool ag, .slice sA sn sc] 80)
  have bb := ba.alloc ba.size (.cells #[.int .i64 0, .pointer none] 154)
  have HBB := Lib.hid bb
  have hs2 : ((w.alloc (.cells #[.int .i64 k, .string s, .bool ag, .slice sA sn sc] 80)).alloc (.cells #[.int .i64 0, .pointer none] 154)).heap.size = w.heap.size + 2 := by simp
  rcases hp with ⟨hk, hl⟩ | hk
  · have hk : k = 1 := hk
    subst hk
    have C := Lib.hid (pcomp_any 1 s ((w.alloc (.cells #[.int .i64 1, .string s, .bool ag, .slice sA sn sc] 80)).alloc (.cells #[.int .i64 0, .pointer none] 154)))
    have hpp := patP1_ (l := s.data.toList) hl
    have HT : Blk ((w.alloc (.cells #[.int .i64 1, .string s, .bool ag, .slice sA sn sc] 80)).alloc (.cells #[.int .i64 0, .pointer none] 154)) (w.heap.size + 1) 154 #[.int .i64 0, .pointer none] := by
      have := Blk.new (w.alloc (.cells #[.int .i64 1, .string s, .bool ag, .slice sA sn sc] 80)) 154 #[.int .i64 0, .pointer none]
      simpa using this
    have HT0 := (Blk.new w 80 #[.int .i64 1, .string s, .bool ag, .slice sA sn sc]).alloc (.cells #[.int .i64 0, .pointer none] 154)
    have HTH := Lib.hid HT
    have HT0H := Lib.hid HT0
    clear ba bb HT HT0
    go_enter Try.func74, Try.ntmps74
    go_wp2_with fail
    refine C.out.mono ?_
    rintro e w1 (⟨_, pt, XX, pp, d, rfl, hP, hx, hb⟩ | ⟨h0, _⟩)
    rotate_left
    · rw [hpp] at h0; exact absurd rfl h0
    rw [hpp] at hP
    have T1 := HTH.out.below hb (by omega)
    have T0 := HT0H.out.below hb (by omega)
    obtain ⟨c0, c1, f0, f1⟩ := blk2 T1
    obtain ⟨⟨d0, d1, d2, d3⟩, -⟩ := blk4 T0
    have FIN := Lib.hid (fun (W : World) (hW : Kept (fun j => j = w.heap.size + 1) w1 W) => show CmpQ w ⟨1, s⟩ (.returned (.tuple #[.agg #[.int .i64 1, .pointer (some ⟨pt, 0, none⟩)], .int .i64 0])) W from by
      have hlt : ∀ j, XX j ∨ j = pt → j < w1.heap.size := fun j hj => by
        rcases hj with hj | rfl
        · obtain ⟨st, hm⟩ := hP.mach; exact hm.old hj
        · exact hP.top.lt
      have hP2 := hP.kept hW (fun j hj e => by have := hx j hj; omega)
      refine ⟨_, fun j => XX j ∨ j = pt, rfl, .inl ⟨Int.le_refl _, show (1 : Int) ≤ 3 by decide, pt, XX, pp, d, _, s, rfl, hP2, fun j hj => hj, fun bs a b ok hf => ?_⟩, fun j hj => ⟨by have := hx j hj; omega, Nat.lt_of_lt_of_le (hlt j hj) hW.size⟩, (HBB.out.trans (hb.mono HBB.out.size)).trans (hW.below (by have := hb.size; omega) fun j hj => by omega)⟩
      have := exF_of hP2.good hf
      simpa [clOf] using this)
    clear hP hx hb T1 T0 C
    go_wp2
    refine bodyPost_ret (v := .tuple #[.agg #[.int .i64 1, .pointer (some ⟨pt, 0, none⟩)], .int .i64 0]) (by simp [results, Try.results74, go_sem, *]) rfl ?_
    refine FIN.out _ ?_
    exact ((Kept.refl (fun j => j = w.heap.size + 1) w1).set_ (p := ⟨w.heap.size + 1, 0, none⟩) (.inl rfl) _).set_ (p := ⟨w.heap.size + 1, 1, none⟩) (.inl rfl) _
  · have hk : 4 ≤ k ∧ k ≤ 7 := hk
    have FIN := Lib.hid (fun (W : World) (hW : Below w.heap.size w W) => show CmpQ w ⟨k, s⟩ (.returned (.tuple #[.agg #[.int .i64 k, .pointer none], .int .i64 0])) W from
      ⟨none, fun _ => False, rfl, .inr ⟨.inr (show 3 < k by omega), fun bs => if_neg (show ¬ k = 1 by omega), rfl⟩, fun _ h => False.elim h, hW⟩)
    have HT : Blk ((w.alloc (.cells #[.int .i64 k, .string s, .bool ag, .slice sA sn sc] 80)).alloc (.cells #[.int .i64 0, .pointer none] 154)) (w.heap.size + 1) 154 #[.int .i64 0, .pointer none] := by
      have := Blk.new (w.alloc (.cells #[.int .i64 k, .string s, .bool ag, .slice sA sn sc] 80)) 154 #[.int .i64 0, .pointer none]
      simpa using this
    have HQ := Lib.hid ((ba.alloc ba.size (.cells #[.int .i64 k, .pointer none] 154)))
    have T : Blk ((w.alloc (.cells #[.int .i64 k, .string s, .bool ag, .slice sA sn sc] 80)).alloc (.cells #[.int .i64 k, .pointer none] 154)) (w.heap.size + 1) 154 #[.int .i64 k, .pointer none] := by
      have := Blk.new (w.alloc (.cells #[.int .i64 k, .string s, .bool ag, .slice sA sn sc] 80)) 154 #[.int .i64 k, .pointer none]
      simpa using this
    obtain ⟨c0, c1, -, -⟩ := blk2 T
    clear ba bb HT T HBB
    rcases (by omega : k = 4 ∨ k = 5 ∨ k = 6 ∨ k = 7) with rfl | rfl | rfl | rfl
    all_goals
      clear hk
      go_enter Try.func74, Try.ntmps74
      go_wp2
      refine bodyPost_ret (v := .tuple #[.agg #[.int .i64 _, .pointer none], .int .i64 0]) (by simp [results, Try.results74, go_sem, *]; rfl) rfl ?_
      exact FIN.out _ HQ.out
/-- Clauses in memory, as they are said. -/
structure AClsAt (w : World) (A : Option Addr) (n : Nat) (ps : List Sp) : Prop where
  len : ps.length = n
  max : n ≤ 1000
  cells : 0 < n → ∃ b o, A = some ⟨b, o, none⟩ ∧ b < w.heap.size ∧ ∀ i p, ps[i]? = some p → w.cell? ⟨b, o + i * 4, none⟩ = some (.int .i64 p.kind) ∧ w.cell? ⟨b, o + i * 4 + 1, none⟩ = some (.string p.text) ∧ (∃ ag, w.cell? ⟨b, o + i * 4 + 2, none⟩ = some (.bool ag)) ∧ ∃ sA sn sc, w.cell? ⟨b, o + i * 4 + 3, none⟩ = some (.slice sA sn sc)
theorem AClsAt.below {w w' : World} {A : Option Addr} {n : Nat} {ps : List Sp} (h : AClsAt w A n ps) (hb : Below w.heap.size w w') : AClsAt w' A n ps :=
  ⟨h.len, h.max, fun hn => by
    obtain ⟨b, o, e, hlt, hc⟩ := h.cells hn
    have k := fun x => hb.cell (p := ⟨b, x, none⟩) hlt
    refine ⟨b, o, e, Nat.lt_of_lt_of_le hlt hb.size, fun i p hi => ?_⟩
    obtain ⟨c0, c1, ⟨ag, c2⟩, sA, sn, sc, c3⟩ := hc i p hi
    exact ⟨(k _).trans c0, (k _).trans c1, ⟨ag, (k _).trans c2⟩, sA, sn, sc, (k _).trans c3⟩⟩
def flatV : List (Int × Option Addr) → List Value
  | [] => []
  | p :: r => .int .i64 p.1 :: .pointer p.2 :: flatV r
theorem flatV_app (a b : List (Int × Option Addr)) : flatV (a ++ b) = flatV a ++ flatV b := by
  induction a with
  | nil => rfl
  | cons p r ih => simp [flatV, ih]
theorem flatV_get : ∀ (l : List (Int × Option Addr)) (i : Nat) (p : Int × Option Addr), l[i]? = some p → (flatV l)[i * 2]? = some (.int .i64 p.1) ∧ (flatV l)[i * 2 + 1]? = some (.pointer p.2)
  | [], i, p, h => by simp at h
  | q :: r, 0, p, h => by simp at h; subst h; exact ⟨rfl, rfl⟩
  | q :: r, i + 1, p, h => by
    have := flatV_get r i p (by simpa using h)
    rw [show (i + 1) * 2 = i * 2 + 1 + 1 by omega]
    exact this
theorem clauseInfo : (Try.prog.info? 154).map (fun i => (i.zero, i.size, i.bytes)) = some (some (.agg #[.int .i64 0, .pointer none]), 2, 16) := by kernel_rfl
/-- Clauses of which the first j are made ready. -/
structure CInv (w wr : World) (ps : List Sp) (j : Nat) (A : Option Addr) (cap : Nat) (qs : List (Int × Option Addr)) (Z : Nat → Nat → Prop) : Prop where
  len : qs.length = j
  row : wr.ownsRow w.heap.size 154 2 (.slice A j cap) j (flatV qs)
  ok : ∀ i p, ps[i]? = some p → i < j → ∃ q, qs[i]? = some (p.kind, q) ∧ ClOk wr (Z i) (clOf p) (.pointer q)
  zin : ∀ i b, Z i b → i < j ∧ w.heap.size ≤ b ∧ b < wr.heap.size ∧ (Value.slice A j cap).ownBlock ≠ some b
  dis : ∀ i k b, i ≠ k → Z i b → ¬ Z k b
  old : Below w.heap.size w wr
section
variable {w wr w' : World} {ps : List Sp} {j : Nat} {A : Option Addr} {cap : Nat} {qs : List (Int × Option Addr)} {Z : Nat → Nat → Prop}
theorem CInv.below (h : CInv w wr ps j A cap qs Z) (hb : Below wr.heap.size wr w') : CInv w w' ps j A cap qs Z :=
  ⟨h.len, h.row.kept (gb_below hb none) (by cases (Value.slice A j cap).ownBlock <;> simp), fun i p hi hj => by
    obtain ⟨q, h1, h2⟩ := h.ok i p hi hj
    exact ⟨q, h1, h2.kept (kept_below (X := fun _ => False) hb) fun _ _ h => h⟩, fun i b hz => by
    obtain ⟨h1, h2, h3, h4⟩ := h.zin i b hz
    exact ⟨h1, h2, Nat.lt_of_lt_of_le h3 hb.size, h4⟩, h.dis, h.old.trans (hb.mono h.old.size)⟩
/-- One more. -/
theorem CInv.push (h : CInv w wr ps j A cap qs Z) {p : Sp} (hp : ps[j]? = some p) {q : Option Addr} {Zj : Nat → Prop} (hq : ClOk wr Zj (clOf p) (.pointer q)) (hz : ∀ b, Zj b → w.heap.size ≤ b ∧ b < wr.heap.size ∧ (∀ i, ¬ Z i b) ∧ (Value.slice A j cap).ownBlock ≠ some b)
    {A' : Option Addr} {cap' : Nat} (hg : wr.grownBy w' (Value.slice A j cap).ownBlock) (hr : w'.ownsRow w.heap.size 154 2 (.slice A' (j + 1) cap') (j + 1) (flatV qs ++ [.int .i64 p.kind, .pointer q]))
    (hat : (Value.slice A' (j + 1) cap').ownBlock = (Value.slice A j cap).ownBlock ∨ (Value.slice A' (j + 1) cap').ownBlock = some wr.heap.size) :
    CInv w w' ps (j + 1) A' cap' (qs ++ [(p.kind, q)]) (fun i b => Z i b ∨ (i = j ∧ Zj b)) := by
  have hk : Kept (fun b => (Value.slice A j cap).ownBlock = some b) wr w' := ⟨hg.os, hg.tape, hg.output, hg.size, fun b hb hn => hg.block b hb (fun e => hn e.symm)⟩
  have notown : ∀ b, b < wr.heap.size → (Value.slice A j cap).ownBlock ≠ some b → (Value.slice A' (j + 1) cap').ownBlock ≠ some b := fun b hb hn e => by
    rcases hat with h1 | h1
    · exact hn (h1 ▸ e)
    · rw [h1] at e; injection e with e; omega
  refine ⟨by simp [h.len], by rw [flatV_app]; exact hr, fun i p2 hi hj => ?_, fun i b hz2 => ?_, fun i k b hik hz1 hz2 => ?_, ?_⟩
  · by_cases hij : i < j
    · obtain ⟨q2, h1, h2⟩ := h.ok i p2 hi hij
      refine ⟨q2, by rw [List.getElem?_append_left (by rw [h.len]; exact hij)]; exact h1, ?_⟩
      have h3 := h2.kept hk fun b hb e => (h.zin i b hb).2.2.2 e
      rcases h3 with ⟨a1, a2, pt, XX, pp, d, t, txt, e1, e2, e3, e4⟩ | h3
      · exact .inl ⟨a1, a2, pt, XX, pp, d, t, txt, e1, e2, fun x hx => .inl (e3 x hx), e4⟩
      · exact .inr h3
    · obtain rfl : i = j := by omega
      obtain rfl : p = p2 := Option.some.inj (hp.symm.trans hi)
      refine ⟨q, by rw [List.getElem?_append_right (by rw [h.len]; exact Nat.le_refl _), h.len]; simp, ?_⟩
      have h3 := hq.kept hk fun b hb e => (hz b hb).2.2.2 e
      rcases h3 with ⟨a1, a2, pt, XX, pp, d, t, txt, e1, e2, e3, e4⟩ | h3
      · exact .inl ⟨a1, a2, pt, XX, pp, d, t, txt, e1, e2, fun x hx => .inr ⟨rfl, e3 x hx⟩, e4⟩
      · exact .inr h3
  · rcases hz2 with hz2 | ⟨rfl, hz2⟩
    · obtain ⟨h1, h2, h3, h4⟩ := h.zin i b hz2
      exact ⟨by omega, h2, Nat.lt_of_lt_of_le h3 hg.size, notown b h3 h4⟩
    · obtain ⟨h2, h3, _, h4⟩ := hz b hz2
      exact ⟨by omega, h2, Nat.lt_of_lt_of_le h3 hg.size, notown b h3 h4⟩
  · rcases hz1 with hz1 | ⟨rfl, hz1⟩
    · rcases hz2 with hz2 | ⟨rfl, hz2⟩
      · exact h.dis i k b hik hz1 hz2
      · exact (hz b hz2).2.2.1 i hz1
    · rcases hz2 with hz2 | ⟨rfl, hz2⟩
      · exact (hz b hz1).2.2.1 k hz2
      · exact hik rfl
  · exact h.old.grown hg h.old.size fun k hk => (h.row.lt k hk).1
end
def CompQ (w : World) (n : Nat) (ps : List Sp) (e : Ending) (w' : World) : Prop :=
  ∃ A' c' Z, e = .returned (.tuple #[.slice A' n c', .int .i64 0]) ∧ ClsAt w' A' n (ps.map clOf) Z ∧ (∀ j, ZB A' Z j → w.heap.size ≤ j ∧ j < w'.heap.size) ∧ Below w.heap.size w w'
set_option maxHeartbeats 2000000 in
set_option maxRecDepth 100000 in
theorem compile_any {w : World} {A : Option Addr} {n : Nat} {ps : List Sp} (h : AClsAt w A n ps) (hok : ∀ p ∈ ps, SpOk p) (c : Nat) : Calls Try.prog 40 #[.slice A n c] w (CompQ w n ps) := by
  obtain ⟨i0, hi0, hz0, hz1, hz2⟩ := info_parts clauseInfo
  have hmax := h.max
  have hlen := h.len
  obtain ⟨w1, hmk, ho1, hg1⟩ := run_make_own (P := Try.prog) w w.heap.size 94 154 i0 _ 2 Try.underlying94 hi0 hz0 hz1 .i64 .i64 n (by rw [hz2]; omega) (by unfold maxLen; omega) (Nat.le_refl _)
  have HMK := Lib.hid hmk
  have bel1 : Below w.heap.size w w1 := ⟨hg1.os, hg1.tape, hg1.output, hg1.size, fun j hj => hg1.block j hj (by simp)⟩
  have START := Lib.hid (show CInv w w1 ps 0 (some ⟨w.heap.size, 0, none⟩) n [] (fun _ _ => False) from ⟨rfl, ho1, fun i p _ hi => by omega, fun _ _ h => h.elim, fun _ _ _ _ h => h.elim, bel1⟩)
  have H := Lib.hid h
  have HOK := Lib.hid hok
  clear h hok ho1 hg1 bel1
  go_enter Try.func40, Try.ntmps40
  go_wp2_with fail
  go_loopw [4, 14] (fun v i wr => ∃ (j : Nat) (A' : Option Addr) (cap : Nat) (qs : List (Int × Option Addr)) (Z : Nat → Nat → Prop), j ≤ n ∧ i = .int .i64 (j : Nat) ∧ v = .slice A' j cap ∧ CInv w wr ps j A' cap qs Z) (fun _ i _ => n - (intOf i).toNat)
  case atStart => exact ⟨0, _, _, _, _, Nat.zero_le _, rfl, rfl, START.out⟩
  case round =>
    obtain ⟨j, A', cap, qs, Z, hj, rfl, rfl, hinv⟩ := hrel
    have HI := Lib.hid hinv
    by_cases hlt : j < n
    · have hlt' : (j : Int) < (n : Int) := by omega
      have hj0 : (0 : Int) ≤ (j : Int) := by omega
      obtain ⟨p, hp⟩ : ∃ p, ps[j]? = some p := ⟨ps[j]'(by omega), List.getElem?_eq_getElem _⟩
      obtain ⟨b, o, rfl, hb, hc⟩ := H.out.cells (by omega)
      obtain ⟨c0, c1, ⟨ag, c2⟩, sA, sn, sc, c3⟩ := hc j p hp
      have hold := hinv.old
      rw [← hold.cell (p := ⟨b, o + j * 4, none⟩) hb] at c0
      rw [← hold.cell (p := ⟨b, o + j * 4 + 1, none⟩) hb] at c1
      rw [← hold.cell (p := ⟨b, o + j * 4 + 2, none⟩) hb] at c2
      rw [← hold.cell (p := ⟨b, o + j * 4 + 3, none⟩) hb] at c3
      have HP := Lib.hid hp
      have hsp := HOK.out p (List.mem_of_getElem? hp)
      obtain ⟨k, s⟩ := p
      have ba := (Below.refl wr.heap.size wr).alloc (Nat.le_refl _) (.cells #[.int .i64 k, .string s, .bool ag, .slice sA sn sc] 80)
      have C := Lib.hid (cmp1_any ⟨k, s⟩ hsp ag sA sn sc (wr.alloc (.cells #[.int .i64 k, .string s, .bool ag, .slice sA sn sc] 80)))
      have HBA := Lib.hid ba
      have hbw : b < wr.heap.size := Nat.lt_of_lt_of_le hb hold.size
      dsimp only at c0 c1
      clear hc hp hsp ba hinv hold
      go_wp2_with fail
      refine C.out.mono ?_
      rintro e w2 ⟨q, Zj, rfl, hq, hz, hb2⟩
      have I2 := Lib.hid ((HI.out.below HBA.out).below hb2)
      have HQ := Lib.hid hq
      have HZ := Lib.hid hz
      have B2 := Lib.hid (HBA.out.trans (hb2.mono HBA.out.size))
      have ba3 := (Below.refl w2.heap.size w2).alloc (Nat.le_refl _) (.cells #[.int .i64 k, .pointer q] 154)
      have I3 := Lib.hid (I2.out.below ba3)
      have I4 := Lib.hid (I3.out.below ((Below.refl _ (w2.alloc (.cells #[.int .i64 k, .pointer q] 154))).alloc (Nat.le_refl _) (.cells #[.int .i64 k, .pointer q] 154)))
      have hs3 : (w2.alloc (.cells #[.int .i64 k, .pointer q] 154)).heap.size = w2.heap.size + 1 := by simp
      have hsw := Nat.le_trans HI.out.old.size B2.out.size
      have Q4 := Lib.hid ((hq.kept (kept_below (X := fun _ => False) ba3) (fun _ _ h => h)).kept (kept_below (X := fun _ => False) ((Below.refl _ (w2.alloc (.cells #[.int .i64 k, .pointer q] 154))).alloc (Nat.le_refl _) (.cells #[.int .i64 k, .pointer q] 154))) (fun _ _ h => h))
      obtain ⟨v', w5, q1, q2, q3, q4, q5⟩ := run_append_own_at (P := Try.prog) (w := (w2.alloc (.cells #[.int .i64 k, .pointer q] 154)).alloc (.cells #[.int .i64 k, .pointer q] 154)) w.heap.size 94 94 154 i0 _ 2 16 Try.underlying94 hi0 hz0 hz1 hz2 rfl (by decide) _ j (flatV qs) I4.out.row ⟨w2.heap.size + 1, 0, none⟩ 1 1 [.int .i64 k, .pointer q] rfl (fun x u hu => by
        have hn := Blk.new (w2.alloc (.cells #[.int .i64 k, .pointer q] 154)) 154 #[.int .i64 k, .pointer q]
        rw [hs3] at hn
        rw [Addr.add_mid, Nat.zero_add, hn.cell x]
        rw [← hu]; simp) (fun u hu => by
        rcases List.mem_cons.1 hu with rfl | hu
        · rfl
        · rcases List.mem_cons.1 hu with rfl | hu
          · rfl
          · simp at hu) (by unfold maxLen; omega) (by omega) (by simp; omega)
      obtain ⟨g, cap2, rfl, -⟩ := q2.form (by omega)
      have HRUN := Lib.hid q1
      have FIN := Lib.hid (I4.out.push HP.out Q4.out (fun x hx => by
        have h1 := HZ.out x hx
        have h0 : (wr.alloc (.cells #[.int .i64 k, .string s, .bool ag, .slice sA sn sc] 80)).heap.size = wr.heap.size + 1 := by simp
        refine ⟨by have := HI.out.old.size; omega, by simp; omega, fun i hzi => ?_, fun e => ?_⟩
        · have := (HI.out.zin i x hzi).2.2.1; omega
        · have := (HI.out.row.lt x e).2; omega) q3 q2 q5)
      clear hq hz hb2 ba3 q1 q2 q3 q4 q5 I2 I3 I4 Q4 hs3
      go_wp2_with (at_builtin; refine wpList_append_run rfl (.tmp 26) (.tmp 28) 94 rfl _ _ _ rfl rfl HRUN.out ?_)
      go_roundw
      case rel => exact ⟨j + 1, _, _, _, _, by omega, by go_num, rfl, FIN.out⟩
      case measure => simp [intOf]; omega
    · have hlt' : ¬ (j : Int) < (n : Int) := by omega
      obtain rfl : j = n := by omega
      have FIN := Lib.hid (show CompQ w j ps (.returned (.tuple #[.slice A' j cap, .int .i64 0])) wr from by
        refine ⟨A', cap, Z, rfl, ⟨by simp [hlen], by omega, fun hn => ?_, fun i b hz ho => ?_, hinv.dis⟩, fun b hb => ?_, hinv.old⟩
        · obtain ⟨g, cap', e, -⟩ := hinv.row.form hn
          injection e with e1 _ e3
          subst e1
          have hg := hinv.row.lt g rfl
          refine ⟨g, 0, rfl, hg.2, fun i cl hi => ?_⟩
          rw [List.getElem?_map] at hi
          obtain ⟨p, hp, rfl⟩ := Option.map_eq_some_iff.1 hi
          have hij : i < j := by have := (List.getElem?_eq_some_iff.1 hp).1; omega
          obtain ⟨q, hq1, hq2⟩ := hinv.ok i p hp hij
          obtain ⟨f1, f2⟩ := flatV_get qs i _ hq1
          rw [Nat.zero_add]
          exact ⟨(hinv.row.cellAt _ (by omega)).trans f1, _, (hinv.row.cellAt _ (by omega)).trans f2, hq2⟩
        · obtain ⟨off, e⟩ := ho
          subst e
          exact (hinv.zin i b hz).2.2.2 rfl
        · rcases hb with ⟨off, e⟩ | ⟨i, hz⟩
          · subst e
            exact hinv.row.lt b rfl
          · have := hinv.zin i b hz
            exact ⟨this.2.1, this.2.2.1⟩)
      clear hinv
      go_wp2
      go_ret2
      exact FIN.out
end Go.Proofs.Ytgcbcdbfeaepkaa
