/- rex.writer.begin. -/
import Derived.Test.YtjnhmcgjeljcmaaWr
import Derived.Test.YtjnhmcgjeljcmaaGh
import Derived.Test.YtjnhmcgjeljcmaaWs
import Derived.Deep.RegionLaw
import Derived.Deep.RegionHeld3
namespace Go.Proofs.Ytjnhmcgjeljcmaa
open Go.RowKit

/-- The cells of open nodes. -/
def FrAt (w : World) (X : Nat → Prop) (d : Nat) (f : Fr) (cs : List Value) : Prop :=
  ∃ A n c, cs = [.int .i64 f.kind, .slice A n c, .int .i64 (f.next : Nat), .string ⟨f.behind.toArray⟩] ∧ n ≤ maxLen ∧ n ≤ c ∧ KdAt w X d A n f.kids ∧ f.next ≤ f.kids.length
def FrsAt (w : World) (X : Nat → Prop) (d : Nat) (fs : List Fr) (cells : List Value) : Prop :=
  cells.length = fs.length * 4 ∧ ∀ i f, fs[i]? = some f → ∃ v0 v1 v2 v3, cells[i * 4]? = some v0 ∧ cells[i * 4 + 1]? = some v1 ∧ cells[i * 4 + 2]? = some v2 ∧ cells[i * 4 + 3]? = some v3 ∧ FrAt w X d f [v0, v1, v2, v3]
theorem KdAt.deeper {w : World} {X : Nat → Prop} {d d' n : Nat} {A : Option Addr} {ts : List Tr} (h : KdAt w X d A n ts) (hd : d ≤ d') : KdAt w X d' A n ts :=
  ⟨h.1, fun hn => by
    obtain ⟨b, o, hA, hX, hc⟩ := h.2 hn
    refine ⟨b, o, hA, hX, fun i t ht => ?_⟩
    obtain ⟨v0, v1, v2, e0, e1, e2, ht'⟩ := hc i t ht
    exact ⟨v0, v1, v2, e0, e1, e2, ht'.deeper hd⟩⟩
theorem FrsAt.keep {w w' : World} {X : Nat → Prop} {d : Nat} {fs : List Fr} {cells : List Value} (h : FrsAt w X d fs cells) (hk : ∀ b, X b → w'.heap[b]? = w.heap[b]?) : FrsAt w' X d fs cells :=
  ⟨h.1, fun i f hi => by
    obtain ⟨v0, v1, v2, v3, e0, e1, e2, e3, A, n, c, hv, hm, hc, hK, hx⟩ := h.2 i f hi
    exact ⟨v0, v1, v2, v3, e0, e1, e2, e3, A, n, c, hv, hm, hc, hK.keep hk, hx⟩⟩
theorem FrsAt.nil (w : World) (X : Nat → Prop) (d : Nat) : FrsAt w X d [] [] := ⟨rfl, fun i f h => by simp at h⟩
theorem FrsAt.snoc {w : World} {X : Nat → Prop} {d : Nat} {fs : List Fr} {cells : List Value} {f : Fr} {v0 v1 v2 v3 : Value} (h : FrsAt w X d fs cells) (hf : FrAt w X d f [v0, v1, v2, v3]) : FrsAt w X d (fs ++ [f]) (cells ++ [v0, v1, v2, v3]) := by
  have hl := h.1
  refine ⟨by simp [hl]; omega, fun i f' hi => ?_⟩
  rcases Nat.lt_or_ge i fs.length with h1 | h1
  · rw [List.getElem?_append_left h1] at hi
    obtain ⟨u0, u1, u2, u3, e0, e1, e2, e3, hf'⟩ := h.2 i f' hi
    refine ⟨u0, u1, u2, u3, ?_, ?_, ?_, ?_, hf'⟩
    · rw [List.getElem?_append_left (by omega)]; exact e0
    · rw [List.getElem?_append_left (by omega)]; exact e1
    · rw [List.getElem?_append_left (by omega)]; exact e2
    · rw [List.getElem?_append_left (by omega)]; exact e3
  · rw [List.getElem?_append_right h1] at hi
    have h0 : i - fs.length = 0 := by
      rcases Nat.eq_zero_or_pos (i - fs.length) with h | h
      · exact h
      · rw [List.getElem?_eq_none (by simp; omega)] at hi; cases hi
    rw [h0] at hi
    simp at hi
    subst hi
    refine ⟨v0, v1, v2, v3, ?_, ?_, ?_, ?_, hf⟩
    · rw [List.getElem?_append_right (by omega), show i * 4 - cells.length = 0 by omega]; rfl
    · rw [List.getElem?_append_right (by omega), show i * 4 + 1 - cells.length = 1 by omega]; rfl
    · rw [List.getElem?_append_right (by omega), show i * 4 + 2 - cells.length = 2 by omega]; rfl
    · rw [List.getElem?_append_right (by omega), show i * 4 + 3 - cells.length = 3 by omega]; rfl
/-- The writer in block b has written o, the nodes fs are open; trees lie below B. -/
def WrAt (B b d : Nat) (o : List UInt8) (fs : List Fr) (w : World) : Prop := ∃ ov cells, IsW B b (Lib.byteCells o) ov w ∧ w.ownsRow B 131 4 ov fs.length cells ∧ FrsAt w (· < B) d fs cells
theorem openInfo : (Try.prog.info? 131).map (fun i => (i.zero, i.size, i.bytes)) = some (some (.agg #[.int .i64 0, .slice none 0 0, .int .i64 0, .string ⟨#[]⟩]), 4, 56) := by kernel_rfl

def BPost (B b d : Nat) (o : List UInt8) (fs : List Fr) (w : World) (e : Ending) (w' : World) : Prop := e = .returned (.tuple #[]) ∧ WrAt B b d o fs w' ∧ Below B w w'
theorem isw_below {w w' : World} {B b : Nat} {bs : List Value} {ov : Value} (h : IsW B b bs ov w) (hb : Below w.heap.size w w') : IsW B b bs ov w' := by
  rcases h with ⟨h1, v, h2, h3⟩ | ⟨h1, v, h2, h3⟩
  · exact Or.inl ⟨h1, v, h2.below hb h2.lt, own_below h3 hb⟩
  · exact Or.inr ⟨h1, v, h2.below hb h2.lt, own_below h3 hb⟩
theorem IsW.lt {w : World} {B b : Nat} {bs : List Value} {ov : Value} (h : IsW B b bs ov w) : b < w.heap.size ∧ B ≤ b := by
  rcases h with ⟨h1, v, h2, h3⟩ | ⟨h1, v, h2, h3⟩
  · exact ⟨h2.lt, h1⟩
  · exact ⟨h2.lt, h1⟩
theorem keepsO_own {w w' : World} {B n : Nat} {v : Value} {xs : List Value} (h : w.ownsRow B 131 4 v n xs) (hk : KeepsO w w') : w'.ownsRow B 131 4 v n xs := by
  refine ⟨h.1, ?_⟩
  rcases h.2 with hn | ⟨g, cap, cur, rfl, hb, hg, rest⟩
  · exact .inl hn
  · exact .inr ⟨g, cap, cur, rfl, hb, hk g _ cur (by decide) (by decide) hg, rest⟩
set_option maxHeartbeats 1000000 in
set_option maxRecDepth 100000 in
theorem begin_set (B b d : Nat) (o : List UInt8) (fs : List Fr) (w : World) (h : WrAt B b d o fs w) (hB : B ≤ w.heap.size) (wi : Bool) (rs : List (UInt8 × UInt8)) (kids : List Tr) (A : Option Addr) (n c : Nat) (A' : Option Addr) (n' c' : Nat)
    (ht : TreeAt w (· < B) d (.mk 1 rs kids) [.int .i64 1, .slice A n c, .slice A' n' c']) (ho : o.length ≤ 35184372088832) :
    Calls Try.prog 36 #[.pointer (some ⟨b, 0, none⟩), .agg #[.int .i64 1, .slice A n c, .slice A' n' c'], .bool wi] w (BPost B b d (o ++ setTx rs) fs w) := by
  obtain ⟨ov, cells, hw, hown, hfs⟩ := h
  have hlb := hw.lt
  obtain ⟨d, rfl⟩ : ∃ d', d = d' + 1 := by cases d with | zero => exact ht.elim | succ d => exact ⟨d, rfl⟩
  obtain ⟨A1, n1, c1, A2, n2, c2, e0, e1, e2, hn1, _, hrg, _⟩ := ht.parts
  injection e1 with e1 e1' e1''
  subst e1 e1' e1''
  have hsl := setT_len rs
  clear ht e2 e0
  go_enter Try.func36, Try.ntmps36
  go_wp2_with fail
  refine wp_region_any (by kernel_rfl) ?_
  change wpAny _ _ _ _ _ _ _ (World.drew _)
  refine wpAny_take (i := 0) (v := .pointer (some ⟨b, 0, none⟩)) rfl (by kernel_rfl) (by kernel_rfl) (by kernel_rfl) (fun _ _ _ h => h) (Or.inl ⟨by rfl, fun W => by go_simp⟩) ?_
  refine wpAny_take (i := 1) (v := .pointer (some ⟨b, 0, none⟩)) rfl (by kernel_rfl) (by kernel_rfl) (by kernel_rfl) (fun _ _ _ h => h) (Or.inl ⟨by rfl, fun W => by go_simp⟩) ?_
  refine wpAny_take (i := 2) (v := .pointer (some ⟨b, 0, none⟩)) rfl (by kernel_rfl) (by kernel_rfl) (by kernel_rfl) (fun _ _ _ h => h) (Or.inl ⟨by rfl, fun W => by go_simp⟩) ?_
  refine wpAny_take (i := 3) (v := .pointer (some ⟨w.heap.size, 1, none⟩)) rfl (by kernel_rfl) (by kernel_rfl) (by kernel_rfl) (fun _ _ _ h => h) (Or.inl ⟨by rfl, fun W => by go_simp⟩) ?_
  refine wpAny_ready (rs := [4]) (by kernel_rfl) (by simp) ?_
  refine AllReady.cons rfl (fun K hK => ?_) AllReady.nil
  go_simp
  refine hK _ _ ?_
  clear hK K
  refine wpAny_ready (rs := [5]) (by kernel_rfl) (by simp) ?_
  refine AllReady.cons rfl (fun K hK => ?_) AllReady.nil
  go_simp
  go_wp2_with fail
  have hb0 : Below w.heap.size w (w.alloc (.cells #[.int .i64 1, .slice A n c, .slice A' n' c'] 26)).drew := ⟨rfl, rfl, rfl, by show w.heap.size ≤ (w.alloc _).heap.size; simp, fun j hj => Below.heap_alloc _ _ _ hj⟩
  refine (setText_any A n c rs _ ((hrg.keep (w' := (w.alloc (.cells #[.int .i64 1, .slice A n c, .slice A' n' c'] 26)).drew) fun j hj => hb0.block j (by omega)).mono fun j hj => by have := hb0.size; omega) hn1).mono ?_
  rintro e w1 ⟨rfl, b1⟩
  have hb1 := hb0.trans (b1.mono hb0.size)
  have hs1 := hb1.size
  refine hK _ _ ?_
  clear hK K
  refine wpAny_ready (rs := [6]) (by kernel_rfl) (by simp) ?_
  refine AllReady.cons rfl (fun K hK => ?_) AllReady.nil
  go_simp
  go_wp2_with fail
  refine (wString B b _ ov ⟨(setTx rs).toArray⟩ _ (isw_below hw hb1) (by simp [Lib.byteCells_length, ByteArray.size]; omega) (by omega)).mono ?_
  rintro e w2 ⟨rfl, hw2, b2, hk2⟩
  refine hK _ _ ?_
  refine wpAny_done (by kernel_rfl) ?_ _
  go_wp2
  go_end0
  refine ⟨rfl, ⟨ov, cells, ?_, keepsO_own (own_below hown hb1) hk2, ?_⟩, (hb1.mono hB).trans b2⟩
  · rw [bytes_app]; exact hw2
  · exact hfs.keep fun j hj => (b2.block j hj).trans (hb1.block j (by omega))
theorem IsW.split {w : World} {B b : Nat} {bs : List Value} {ov : Value} (h : IsW B b bs ov w) : ∃ p v, (p = .pointer none ∨ p = .pointer (some ⟨b, 0, none⟩)) ∧ B ≤ b ∧ Blk w b 97 #[p, v, ov] ∧ w.ownsRow B 5 1 v bs.length bs := by
  rcases h with ⟨h1, v, h2, h3⟩ | ⟨h1, v, h2, h3⟩
  · exact ⟨_, v, .inl rfl, h1, h2, h3⟩
  · exact ⟨_, v, .inr rfl, h1, h2, h3⟩
theorem IsW.join {w : World} {B b : Nat} {bs : List Value} {p v ov : Value} (hp : p = .pointer none ∨ p = .pointer (some ⟨b, 0, none⟩)) (h1 : B ≤ b) (h2 : Blk w b 97 #[p, v, ov]) (h3 : w.ownsRow B 5 1 v bs.length bs) : IsW B b bs ov w := by
  rcases hp with rfl | rfl
  · exact .inl ⟨h1, v, h2, h3⟩
  · exact .inr ⟨h1, v, h2, h3⟩
/-- Two rows of other types lie apart. -/
theorem rows_apart {w : World} {B n m : Nat} {v u : Value} {xs ys : List Value} (h : w.ownsRow B 5 1 v n xs) (k : w.ownsRow B 131 4 u m ys) : v.ownBlock = none ∨ v.ownBlock ≠ u.ownBlock := by
  rcases h.2 with ⟨rfl, _⟩ | ⟨g, cap, cur, rfl, _, hg, _⟩
  · exact .inl rfl
  · right
    intro e
    rcases k.2 with ⟨rfl, _⟩ | ⟨g', cap', cur', rfl, _, hg', _⟩
    · simp [Value.ownBlock] at e
    · simp only [Value.ownBlock, Option.some.injEq] at e
      rw [e, hg'] at hg
      simp at hg
theorem wr_apart {w : World} {B b n : Nat} {p v ov : Value} {cells : List Value} (hbk : Blk w b 97 #[p, v, ov]) (hown : w.ownsRow B 131 4 ov n cells) : some b ≠ ov.ownBlock := fun e => by
  rcases hown.2 with ⟨rfl, _⟩ | ⟨g, cap, cur, rfl, _, hg, _⟩
  · simp [Value.ownBlock] at e
  · simp only [Value.ownBlock, Option.some.injEq] at e
    subst e
    unfold Blk at hbk
    rw [hg] at hbk
    simp at hbk
/-- A node more is open. -/
theorem open_step {w w1 w2 : World} {B b d : Nat} {o : List UInt8} {fs : List Fr} {f : Fr} {p v ov ov' : Value} {cells : List Value} {v0 v1 v2 v3 : Value} (hp : p = .pointer none ∨ p = .pointer (some ⟨b, 0, none⟩)) (hB : B ≤ w.heap.size) (hBb : B ≤ b)
    (hbk : Blk w b 97 #[p, v, ov]) (hv : w.ownsRow B 5 1 v (Lib.byteCells o).length (Lib.byteCells o)) (hown : w.ownsRow B 131 4 ov fs.length cells) (hfs : FrsAt w (· < B) d fs cells) (hb1 : Below w.heap.size w w1)
    (hgrow : w1.grownBy w2 ov.ownBlock) (hown2 : w2.ownsRow B 131 4 ov' (fs.length + 1) (cells ++ [v0, v1, v2, v3])) (hf : FrAt w (· < B) d f [v0, v1, v2, v3]) :
    WrAt B b d o (fs ++ [f]) (w2.setCell ⟨b, 2, none⟩ ov') ∧ Below B w (w2.setCell ⟨b, 2, none⟩ ov') := by
  have hown1 := own_below hown hb1
  have hv1 := own_below hv hb1
  have hne : some b ≠ ov.ownBlock := fun e => by
    rcases hown.2 with ⟨rfl, _⟩ | ⟨g, cap, cur, rfl, _, hg, _⟩
    · simp [Value.ownBlock] at e
    · simp only [Value.ownBlock, Option.some.injEq] at e
      subst e
      unfold Blk at hbk
      rw [hg] at hbk
      simp at hbk
  have hb2 : Blk w2 b 97 #[p, v, ov] := (hbk.below hb1 hbk.lt).grown hgrow hne
  have hv2 := hv1.kept hgrow (rows_apart hv1 hown1)
  have hne2 : some b ≠ ov'.ownBlock := fun e => by
    rcases hown2.2 with ⟨rfl, _⟩ | ⟨g, cap, cur, rfl, _, hg, _⟩
    · simp [Value.ownBlock] at e
    · simp only [Value.ownBlock, Option.some.injEq] at e
      subst e
      unfold Blk at hb2
      rw [hg] at hb2
      simp at hb2
  have hlow : ∀ j, j < B → (w2.setCell ⟨b, 2, none⟩ ov').heap[j]? = w.heap[j]? := fun j hj => by
    rw [Below.heap_setCell _ _ _ _ (by show j ≠ b; omega), hgrow.block j (by have := hb1.size; omega) (fun e => by have := (hown1.lt j e.symm).1; omega), hb1.block j (by omega)]
  refine ⟨⟨ov', cells ++ [v0, v1, v2, v3], IsW.join hp hBb (hb2.set_ 2 _) (own_setW hv2 (own_type hv2 hb2 (by decide))), ?_, ?_⟩, ?_⟩
  · rw [List.length_append, List.length_singleton]
    exact hown2.kept (row := some b) ⟨rfl, rfl, rfl, by simp [World.setCell], fun k _ hk => Below.heap_setCell _ _ _ _ (fun e => hk (by simp [e]))⟩ (Or.inr fun e => hne2 e.symm)
  · refine (hfs.keep hlow).snoc ?_
    obtain ⟨A, n, c, hv, hm, hc, hK, hx⟩ := hf
    exact ⟨A, n, c, hv, hm, hc, hK.keep hlow, hx⟩
  · have h1 : Below B w w1 := hb1.mono hB
    exact (h1.grown hgrow (by have := hb1.size; omega) (fun j hj => (hown1.lt j hj).1)).setCell (p := ⟨b, 2, none⟩) hBb _
theorem four_one (k : Int) (A : Option Addr) (n c : Nat) (m : Int) (s : ByteArray) : ∀ u ∈ [Value.int .i64 k, .slice A n c, .int .i64 m, .string s], u.oneCell' = true := by
  intro u hu; simp at hu; rcases hu with rfl | rfl | rfl | rfl <;> rfl
end Go.Proofs.Ytjnhmcgjeljcmaa
