/- Plain facts: names and digits in a report's lines. No program. A block of memory that is known whole; what has grown. -/
import Derived.Test.YtplenagncmhhoaaDoorSmA
import Derived.Lib.ItoaNum
import Derived.Test.YtplenagncmhhoaaDoorProg
import Derived.WalkKit
import Derived.WalkLawsBesides
import Derived.Deep.QuietTactic
import Derived.BigQuiet
import Derived.Lib.Hide
import Derived.Below
import Derived.Deep.Draws
import Derived.Deep.AppendLies
namespace Go.Proofs.YtplenagncmhhoaaDoor

def okN (l : Ln) : Bool := rightB l.length
def wrN (l : Ln) : Ln := writeL ⟨l.toArray⟩
def rdN (l : Ln) : Option Ln := readO ⟨l.toArray⟩
theorem nmOk : NmOk okN wrN rdN where
  back n h := by
    have := readO_writeL (s := ⟨n.toArray⟩) (v := ⟨(wrN n).toArray⟩) (by simpa [okN, ByteArray.size] using h) (by simp [wrN])
    simpa [rdN] using this
  only l n h := by
    unfold rdN readO at h
    cases hd : decAt (⟨l.toArray⟩ : ByteArray) 0 with
    | none => rw [hd] at h; cases h
    | some u =>
      rw [hd] at h
      simp only at h
      by_cases hc : rightB u.length = true ∧ writeL ⟨u.toArray⟩ = (⟨l.toArray⟩ : ByteArray).data.toList
      · rw [if_pos hc] at h
        injection h with h
        subst h
        exact ⟨hc.1, by simpa [wrN] using hc.2⟩
      · rw [if_neg hc] at h; cases h
def prt (c : UInt8) : Prop := 32 ≤ c.toNat ∧ c.toNat ≤ 126
theorem prt_10 {l : Ln} (h : ∀ c, c ∈ l → prt c) : (10 : UInt8) ∉ l := fun hc => by
  have := (h _ hc).1
  exact absurd this (by decide)
theorem wr_prt {n : Ln} (h : okN n = true) : ∀ c, c ∈ wrN n → prt c := by
  intro c hc
  unfold wrN at hc
  rw [writeL_yes (by simpa [okN, ByteArray.size] using h)] at hc
  obtain ⟨j, hj, rfl⟩ := List.getElem_of_mem hc
  have := writeTo_print (⟨n.toArray⟩ : ByteArray) _ (Nat.le_refl _) j hj
  exact ⟨this.1, this.2.1⟩
def dgN (n : Nat) : Ln := Lib.decDigits n
theorem dec_prt : ∀ (N n : Nat), n ≤ N → ∀ c, c ∈ Lib.decDigits n → prt c := by
  intro N
  induction N with
  | zero =>
    intro n hn c hc
    obtain rfl : n = 0 := by omega
    rw [Lib.decDigits, dif_pos (by decide)] at hc
    simp at hc
    subst hc
    exact ⟨by decide, by decide⟩
  | succ N ih =>
    intro n hn c hc
    have dig : ∀ k, k < 10 → prt (UInt8.ofNat (48 + k)) := fun k hk => by
      have e : (UInt8.ofNat (48 + k)).toNat = 48 + k := by simp; omega
      exact ⟨by rw [e]; omega, by rw [e]; omega⟩
    rw [Lib.decDigits] at hc
    split at hc
    · rename_i h
      simp only [List.mem_singleton] at hc
      subst hc
      exact dig n h
    · rename_i h
      rcases List.mem_append.1 hc with hc | hc
      · exact ih (n / 10) (by omega) c hc
      · simp only [List.mem_singleton] at hc
        subst hc
        exact dig _ (by omega)
theorem wd_prt (v : Nat) : ∀ c, c ∈ wd v → prt c := by
  by_cases h : v < 8
  · have key : ∀ i : Fin 8, ∀ c, c ∈ wd i.val → (decide (32 ≤ c.toNat) && decide (c.toNat ≤ 126)) = true := by decide
    intro c hc
    have := key ⟨v, h⟩ c hc
    simpa [prt] using this
  · intro c hc
    unfold wd at hc
    rw [List.getD_eq_getElem?_getD, List.getElem?_eq_none (by simp [wdL]; omega)] at hc; simp at hc
theorem lit_prt {l : Ln} (h : (l.all fun c => decide (32 ≤ c.toNat) && decide (c.toNat ≤ 126)) = true) : ∀ c, c ∈ l → prt c := fun c hc => by
  have := List.all_eq_true.1 h c hc
  simpa [prt] using this
theorem app_prt {a b : Ln} (ha : ∀ c, c ∈ a → prt c) (hb : ∀ c, c ∈ b → prt c) : ∀ c, c ∈ a ++ b → prt c := fun c hc => (List.mem_append.1 hc).elim (ha c) (hb c)
theorem cons_prt {x : UInt8} {b : Ln} (hx : prt x) (hb : ∀ c, c ∈ b → prt c) : ∀ c, c ∈ x :: b → prt c := fun c hc => (List.mem_cons.1 hc).elim (fun e => e ▸ hx) (hb c)
theorem tail_prt (ps : List Pt) : ∀ l, l ∈ tailL dgN ps → ∀ c, c ∈ l → prt c := by
  have one : ∀ v l, l ∈ cntV dgN ps v → ∀ c, c ∈ l → prt c := by
    intro v l hl
    unfold cntV at hl
    split at hl
    · simp at hl
    · simp only [List.mem_singleton] at hl
      subst hl
      exact cons_prt ⟨by decide, by decide⟩ (cons_prt ⟨by decide, by decide⟩ (app_prt (wd_prt v) (cons_prt ⟨by decide, by decide⟩ (dec_prt _ _ (Nat.le_refl _)))))
  intro l hl
  unfold tailL at hl
  simp only [List.mem_append, List.mem_singleton] at hl
  rcases hl with ((((((hl | hl) | hl) | hl) | hl) | hl) | hl) | rfl
  · exact one _ l hl
  · exact one _ l hl
  · exact one _ l hl
  · exact one _ l hl
  · exact one _ l hl
  · exact one _ l hl
  · exact one _ l hl
  · exact lit_prt (by decide)
theorem sum_prt {s : Sm} (hs : okS okN s) : ∀ l, l ∈ sumL wrN dgN s → ∀ c, c ∈ l → prt c := by
  obtain ⟨h1, h2, h3⟩ := hs
  intro l hl
  unfold sumL at hl
  rcases List.mem_cons.1 hl with rfl | hl
  · exact app_prt (lit_prt (by decide)) (wr_prt h1)
  rcases List.mem_cons.1 hl with rfl | hl
  · exact app_prt (lit_prt (by decide)) (wr_prt h2)
  rcases List.mem_append.1 hl with hl | hl
  · unfold partsL at hl
    obtain ⟨q, hq, hl⟩ := List.mem_flatten.1 hl
    obtain ⟨p, hp, rfl⟩ := List.mem_map.1 hq
    obtain ⟨g1, g2⟩ := h3 p hp
    rcases List.mem_cons.1 hl with rfl | hl
    · exact app_prt (lit_prt (by decide)) (wr_prt g1)
    · obtain ⟨r, hr, rfl⟩ := List.mem_map.1 hl
      exact app_prt (wd_prt _) (cons_prt ⟨by decide, by decide⟩ (cons_prt ⟨by decide, by decide⟩ (wr_prt (g2 r hr).1)))
  · exact tail_prt _ l hl
def textB (s : Sm) : Ln := flat (sumL wrN dgN s)
def parseB (t : Ln) : Option Sm × Nat := sumP rdN dgN (linesOf [] t).1 (linesOf [] t).2
theorem parse_text {s : Sm} (hs : okS okN s) : parseB (textB s) = (some s, 0) := by
  have h := lines_flat (sumL wrN dgN s) [] fun l hl => prt_10 (sum_prt hs l hl)
  rw [List.append_nil] at h
  unfold parseB textB
  rw [h]
  simp only [linesOf, List.append_nil]
  exact sum_back nmOk hs
theorem parse_cut {s : Sm} (hs : okS okN s) {i : Nat} (hi : i < (textB s).length) : parseB ((textB s).take i) = (none, ((textB s).take i).count 10) := by
  have hno : ∀ l, l ∈ sumL wrN dgN s → (10 : UInt8) ∉ l := fun l hl => prt_10 (sum_prt hs l hl)
  obtain ⟨m, t, h1, h2, h3⟩ := flat_cut (sumL wrN dgN s) i hi
  obtain ⟨u, hu⟩ := h3 _ (List.getElem?_eq_getElem h1)
  have ht : (10 : UInt8) ∉ t := fun h => hno _ (List.getElem_mem h1) (by rw [hu]; exact List.mem_append_left _ h)
  have hno' : ∀ l, l ∈ (sumL wrN dgN s).take m → (10 : UInt8) ∉ l := fun l hl => hno l (List.mem_of_mem_take hl)
  have e1 : linesOf [] ((textB s).take i) = ((sumL wrN dgN s).take m, t) := by
    unfold textB
    rw [h2, lines_flat _ t hno', lines_end t [] ht]
    simp
  unfold parseB
  rw [e1]
  simp only
  rw [sum_cut nmOk hs h1 t]
  unfold textB
  rw [h2, List.count_append, flat_count _ hno', List.count_eq_zero.2 ht]
  simp
  omega
theorem lines_ne : ∀ (l cur : Ln), (10 : UInt8) ∈ l → (linesOf cur l).1 ≠ []
  | [], cur, h => by simp at h
  | c :: l, cur, h => by
    rw [lines_cons]
    by_cases hc : c = 10
    · rw [if_pos hc]; simp
    · rw [if_neg hc]
      exact lines_ne l _ (by rcases List.mem_cons.1 h with h | h; exact absurd h.symm hc; exact h)
theorem parse_more {s : Sm} (hs : okS okN s) (more : Ln) : parseB (textB s ++ more ++ [10]) = (none, (textB s).count 10) := by
  have hno : ∀ l, l ∈ sumL wrN dgN s → (10 : UInt8) ∉ l := fun l hl => prt_10 (sum_prt hs l hl)
  unfold parseB textB
  rw [List.append_assoc, lines_flat _ _ hno, flat_count _ hno]
  exact sum_more nmOk hs _ (.inl (lines_ne _ _ (by simp)))
end Go.Proofs.YtplenagncmhhoaaDoor
namespace Go.Proofs.YtplenagncmhhoaaDoor
open Go.RowKit

/-- Block g is just these cells. -/
def Blk (w : World) (g : Nat) (t : TypeId) (cs : Array Value) : Prop := w.heap[g]? = some (.cells cs t (0, 0))
section
variable {w w' : World} {g : Nat} {t : TypeId} {cs : Array Value}
theorem Blk.lt (h : Blk w g t cs) : g < w.heap.size := by
  rcases Nat.lt_or_ge g w.heap.size with hlt | hge
  · exact hlt
  · unfold Blk at h; rw [Array.getElem?_eq_none hge] at h; cases h
theorem Blk.cell (h : Blk w g t cs) (i : Nat) : w.cell? ⟨g, i, none⟩ = cs[i]? := cell_of_row w g i cs t (0, 0) h
theorem Blk.frozen (h : Blk w g t cs) (i : Nat) : w.frozen? ⟨g, i, none⟩ = false := by
  unfold Blk at h
  simp [World.frozen?, h]
theorem Blk.new (w : World) (t : TypeId) (cs : Array Value) : Blk (w.alloc (.cells cs t)) w.heap.size t cs := heap_alloc_new w _
theorem Blk.drew (h : Blk w g t cs) : Blk w.drew g t cs := h
theorem Blk.drewN (h : Blk w g t cs) (n : Nat) : Blk (w.drewN n) g t cs := h
theorem Blk.alloc (h : Blk w g t cs) (o : Obj) : Blk (w.alloc o) g t cs := (Below.heap_alloc w o g h.lt).trans h
theorem Blk.set_ (h : Blk w g t cs) (i : Nat) (u : Value) : Blk (w.setCell ⟨g, i, none⟩ u) g t (cs.setIfInBounds i u) := by
  unfold Blk at h ⊢
  simp [World.setCell, Array.getElem?_modify, h]
theorem Blk.far (h : Blk w g t cs) {p : Addr} (hp : g ≠ p.block) (u : Value) : Blk (w.setCell p u) g t cs := (Below.heap_setCell w p u g hp).trans h
theorem Blk.below {B : Nat} (h : Blk w g t cs) (hb : Below B w w') (hg : g < B) : Blk w' g t cs := (hb.block g hg).trans h
theorem Blk.grown {row : Option Nat} (h : Blk w g t cs) (hb : w.grownBy w' row) (hg : some g ≠ row) : Blk w' g t cs := (hb.block g h.lt hg).trans h
end
theorem blk2 {w : World} {g : Nat} {t : TypeId} {a b : Value} (h : Blk w g t #[a, b]) : w.cell? ⟨g, 0, none⟩ = some a ∧ w.cell? ⟨g, 1, none⟩ = some b ∧ w.frozen? ⟨g, 0, none⟩ = false ∧ w.frozen? ⟨g, 1, none⟩ = false :=
  ⟨h.cell 0, h.cell 1, h.frozen 0, h.frozen 1⟩
theorem blk3 {w : World} {g : Nat} {t : TypeId} {a b c : Value} (h : Blk w g t #[a, b, c]) : w.cell? ⟨g, 0, none⟩ = some a ∧ w.cell? ⟨g, 1, none⟩ = some b ∧ w.cell? ⟨g, 2, none⟩ = some c ∧ w.frozen? ⟨g, 0, none⟩ = false ∧ w.frozen? ⟨g, 1, none⟩ = false ∧ w.frozen? ⟨g, 2, none⟩ = false :=
  ⟨h.cell 0, h.cell 1, h.cell 2, h.frozen 0, h.frozen 1, h.frozen 2⟩
theorem gb_refl (w : World) (row : Option Nat) : w.grownBy w row := World.grownBy.refl w row
theorem gb_drewN {a w : World} {row : Option Nat} (h : a.grownBy w row) (n : Nat) : a.grownBy (w.drewN n) row := ⟨h.os, h.tape, h.output, h.size, h.block⟩
theorem gb_drew {a w : World} {row : Option Nat} (h : a.grownBy w row) : a.grownBy w.drew row := ⟨h.os, h.tape, h.output, h.size, h.block⟩
theorem gb_alloc {a w : World} {row : Option Nat} (h : a.grownBy w row) (o : Obj) : a.grownBy (w.alloc o) row :=
  ⟨h.os, h.tape, h.output, Nat.le_trans h.size (by simp), fun i hi hne => (Below.heap_alloc w o i (Nat.lt_of_lt_of_le hi h.size)).trans (h.block i hi hne)⟩
theorem gb_set {a w : World} {g : Nat} (h : a.grownBy w (some g)) {p : Addr} (hp : p.block = g ∨ a.heap.size ≤ p.block) (u : Value) : a.grownBy (w.setCell p u) (some g) :=
  ⟨h.os, h.tape, h.output, by simpa [World.setCell] using h.size, fun i hi hne => (Below.heap_setCell w p u i (by
    rintro rfl
    rcases hp with hp | hp
    · exact hne (by rw [hp])
    · omega)).trans (h.block i hi hne)⟩
theorem gb_trans {a b c : World} {row : Option Nat} (h : a.grownBy b row) (k : b.grownBy c row) : a.grownBy c row :=
  ⟨k.os.trans h.os, k.tape.trans h.tape, k.output.trans h.output, Nat.le_trans h.size k.size, fun i hi hne => (k.block i (Nat.lt_of_lt_of_le hi h.size) hne).trans (h.block i hi hne)⟩
theorem gb_below {a w : World} (h : Below a.heap.size a w) (row : Option Nat) : a.grownBy w row := ⟨h.os, h.tape, h.output, h.size, fun i hi _ => h.block i hi⟩
/-- A step whose row is new, or the same row. -/
theorem gb_step {a b c : World} {g : Nat} {row : Option Nat} (h : a.grownBy b (some g)) (k : b.grownBy c row) (hr : ∀ j, row = some j → j = g ∨ a.heap.size ≤ j) : a.grownBy c (some g) :=
  ⟨k.os.trans h.os, k.tape.trans h.tape, k.output.trans h.output, Nat.le_trans h.size k.size, fun i hi hne => (k.block i (Nat.lt_of_lt_of_le hi h.size) (fun e => by
    rcases hr i e.symm with h1 | h1
    · exact hne (by rw [h1])
    · omega)).trans (h.block i hi hne)⟩

theorem ret_bool {a b : Bool} (h : a = b) : Ending.returned (.bool a) = .returned (.bool b) := by rw [h]
end Go.Proofs.YtplenagncmhhoaaDoor
