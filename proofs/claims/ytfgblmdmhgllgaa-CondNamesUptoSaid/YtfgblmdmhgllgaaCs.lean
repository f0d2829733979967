/- Rows of conditions that a call makes: append; the simple condition as it grows; names of a simple condition. -/
import Derived.Test.YtfgblmdmhgllgaaCe
import Derived.Deep.AppendLies
import Derived.Deep.Slices
import Derived.Maps.AppendAt
namespace Go.Proofs.Ytfgblmdmhgllgaa
open Go.RowKit Go.Maps

theorem right_names {d : Nat} : ∀ {t : CT}, rightT d t = true → 1 ≤ (namesT t).length := by
  induction d with
  | zero => intro t h; cases h
  | succ d ih =>
    intro t h
    obtain ⟨k, n, v, kids⟩ := t
    obtain ⟨ha, hk⟩ := right_kids h
    rw [namesT, List.length_append]
    rcases alone_cases ha with ⟨h1, _⟩ | ⟨h1, _, _, h4⟩ | ⟨h1, _, _, h4⟩
    · rw [if_pos h1]; simp
    all_goals
      match kids, hk with
      | t :: ts, hk =>
        have := ih (hk t (by simp))
        rw [namesK, List.length_append]; omega
theorem names_len {d : Nat} : ∀ {ts : List CT}, (∀ t ∈ ts, rightT d t = true) → ts.length ≤ (namesK ts).length
  | [], _ => by simp [namesK]
  | t :: ts, h => by
    have h1 := right_names (h t (by simp))
    have h2 := names_len (d := d) (ts := ts) fun t ht => h t (by simp [ht])
    rw [namesK, List.length_append, List.length_cons]; omega
theorem namesK_app (a b : List CT) : namesK (a ++ b) = namesK a ++ namesK b := by rw [namesK_eq, namesK_eq, namesK_eq, List.flatMap_append]
theorem flat_names {k : Int} (hk : k = 4 ∨ k = 5) (t : CT) : namesK (flat k t) = namesT t := by
  unfold flat
  split
  · rename_i he
    obtain ⟨k', n, v, kids⟩ := t
    have : k' = k := he
    rw [namesT, if_neg (by omega)]; rfl
  · simp [namesK]
theorem flats_names {k : Int} (hk : k = 4 ∨ k = 5) (no : Bool) : ∀ ts : List CT, (∀ t ∈ ts, namesT (simpT no t) = namesT t) → namesK (simpK no k ts) = namesK ts
  | [], _ => rfl
  | t :: ts, h => by
    rw [simpK, namesK_app, flat_names hk, h t (by simp), flats_names hk no ts fun t ht => h t (by simp [ht]), namesK]
/-- A simple condition asks for the same names. -/
theorem simp_names : ∀ (d : Nat) (no : Bool) (t : CT), rightT d t = true → namesT (simpT no t) = namesT t
  | 0, _, _, h => by cases h
  | d + 1, no, .mk k n v kids, h => by
    obtain ⟨ha, hk⟩ := right_kids h
    rcases alone_cases ha with ⟨h1, _, h3⟩ | ⟨h1, _, _, h4⟩ | ⟨h1, _, _, h4⟩
    · obtain rfl := List.eq_nil_of_length_eq_zero h3
      rw [simpT, if_neg (by omega), namesT, namesT, if_pos h1, if_pos (by rcases h1 with rfl | rfl <;> cases no <;> simp [opp])]
      simp [simpK, namesK]
    · subst h1
      match kids, hk, h4 with
      | [t], hk, _ =>
        rw [simpT, if_pos rfl, simpF, simp_names d (!no) t (hk t (by simp)), namesT, if_neg (by omega)]
        simp [namesK]
    · have ho := opp_and no h1
      rw [simpT, if_neg (by omega)]
      generalize (if no then opp k else k) = k' at ho
      rw [namesT, namesT, if_neg (show ¬ (k' = 1 ∨ k' = 2) by omega), if_neg (show ¬ (k = 1 ∨ k = 2) by omega), List.nil_append, List.nil_append]
      exact flats_names ho no kids fun t ht => simp_names d no t (hk t ht)
theorem simpK_names {d : Nat} {k : Int} (hk : k = 4 ∨ k = 5) (no : Bool) (ts : List CT) (h : ∀ t ∈ ts, rightT d t = true) : (simpK no k ts).length ≤ (namesK ts).length := by
  rw [← flats_names hk no ts fun t ht => simp_names d no t (h t ht)]
  refine names_len (d := d) fun x hx => ?_
  rw [simpK_eq, List.mem_flatMap] at hx
  obtain ⟨t, ht, hx⟩ := hx
  exact flat_right (simp_right d no t (h t ht)) x hx
theorem simpK_snoc {no : Bool} {k : Int} {kids : List CT} {j : Nat} {t : CT} (h : kids[j]? = some t) : simpK no k (kids.take (j + 1)) = simpK no k (kids.take j) ++ flat k (simpT no t) := by
  rw [simpK_eq, simpK_eq, List.take_add_one, h]; simp
theorem namesK_take (kids : List CT) (j : Nat) : (namesK (kids.take j)).length ≤ (namesK kids).length := by
  have h := List.take_append_drop j kids
  conv => rhs; rw [← h]
  rw [namesK_app, List.length_append]; omega

/-- A row of conditions' cells that read as these trees. -/
def RowC (w : World) (X : Nat → Prop) (d : Nat) (ts : List CT) (cells : List Value) : Prop :=
  cells.length = ts.length * 4 ∧ ∀ i t, ts[i]? = some t → ∃ v0 v1 v2 v3, cells[i * 4]? = some v0 ∧ cells[i * 4 + 1]? = some v1 ∧ cells[i * 4 + 2]? = some v2 ∧ cells[i * 4 + 3]? = some v3 ∧ CondAt w X d t [v0, v1, v2, v3]
theorem RowC.keep {w w' : World} {X : Nat → Prop} {d : Nat} {ts : List CT} {cells : List Value} (h : RowC w X d ts cells) (hk : ∀ b, X b → w'.heap[b]? = w.heap[b]?) : RowC w' X d ts cells :=
  ⟨h.1, fun i t ht => by obtain ⟨v0, v1, v2, v3, a, b, c, e, ht'⟩ := h.2 i t ht; exact ⟨v0, v1, v2, v3, a, b, c, e, ht'.keep hk⟩⟩
theorem RowC.mono {w : World} {X Y : Nat → Prop} {d : Nat} {ts : List CT} {cells : List Value} (h : RowC w X d ts cells) (hXY : ∀ b, X b → Y b) : RowC w Y d ts cells :=
  ⟨h.1, fun i t ht => by obtain ⟨v0, v1, v2, v3, a, b, c, e, ht'⟩ := h.2 i t ht; exact ⟨v0, v1, v2, v3, a, b, c, e, ht'.mono hXY⟩⟩
theorem RowC.deeper {w : World} {X : Nat → Prop} {d d' : Nat} {ts : List CT} {cells : List Value} (h : RowC w X d ts cells) (hd : d ≤ d') : RowC w X d' ts cells :=
  ⟨h.1, fun i t ht => by obtain ⟨v0, v1, v2, v3, a, b, c, e, ht'⟩ := h.2 i t ht; exact ⟨v0, v1, v2, v3, a, b, c, e, ht'.deeper hd⟩⟩
theorem RowC.nil (w : World) (X : Nat → Prop) (d : Nat) : RowC w X d [] [] := ⟨rfl, fun i t h => by simp at h⟩
theorem RowC.app {w : World} {X : Nat → Prop} {d : Nat} {ts us : List CT} {cells news : List Value} (h : RowC w X d ts cells) (hu : RowC w X d us news) : RowC w X d (ts ++ us) (cells ++ news) := by
  have hl := h.1
  have hl2 := hu.1
  refine ⟨by simp [hl, hl2]; omega, fun i t' hi => ?_⟩
  rcases Nat.lt_or_ge i ts.length with h1 | h1
  · rw [List.getElem?_append_left h1] at hi
    obtain ⟨a, b, c, e, e0, e1, e2, e3, ht'⟩ := h.2 i t' hi
    refine ⟨a, b, c, e, ?_, ?_, ?_, ?_, ht'⟩
    all_goals (rw [List.getElem?_append_left (by omega)]; assumption)
  · rw [List.getElem?_append_right h1] at hi
    have h2 : i - ts.length < us.length := (List.getElem?_eq_some_iff.1 hi).1
    obtain ⟨a, b, c, e, e0, e1, e2, e3, ht'⟩ := hu.2 _ t' hi
    refine ⟨a, b, c, e, ?_, ?_, ?_, ?_, ht'⟩
    · rw [List.getElem?_append_right (by omega), show i * 4 - cells.length = (i - ts.length) * 4 by omega]; exact e0
    · rw [List.getElem?_append_right (by omega), show i * 4 + 1 - cells.length = (i - ts.length) * 4 + 1 by omega]; exact e1
    · rw [List.getElem?_append_right (by omega), show i * 4 + 2 - cells.length = (i - ts.length) * 4 + 2 by omega]; exact e2
    · rw [List.getElem?_append_right (by omega), show i * 4 + 3 - cells.length = (i - ts.length) * 4 + 3 by omega]; exact e3
/-- Conditions in memory as a row of cells. -/
theorem KidsAt.cells {w : World} {X : Nat → Prop} {d m : Nat} {A : Option Addr} {ts : List CT} (h : KidsAt w X d A m ts) (hm : 0 < m) : ∃ a news, A = some a ∧ RowC w X d ts news ∧ news.length = m * 4 ∧ (∀ j u, news[j]? = some u → w.cell? (a.add j) = some u) ∧ ∀ u ∈ news, u.oneCell' = true := by
  obtain ⟨b, o, hA, hX, hc⟩ := h.2 hm
  have hl := h.1
  have key : ∀ i, i < m → ∃ t v0 v1 v2 v3, ts[i]? = some t ∧ w.cell? ⟨b, o + i * 4, none⟩ = some v0 ∧ w.cell? ⟨b, o + i * 4 + 1, none⟩ = some v1 ∧ w.cell? ⟨b, o + i * 4 + 2, none⟩ = some v2 ∧ w.cell? ⟨b, o + i * 4 + 3, none⟩ = some v3 ∧ CondAt w X d t [v0, v1, v2, v3] := by
    intro i hi
    obtain ⟨v0, v1, v2, v3, e⟩ := hc i _ (List.getElem?_eq_getElem (show i < ts.length by omega))
    exact ⟨_, v0, v1, v2, v3, List.getElem?_eq_getElem _, e⟩
  have all : ∀ j, j < m * 4 → ∃ u, w.cell? ⟨b, o + j, none⟩ = some u ∧ u.oneCell' = true := by
    intro j hj
    obtain ⟨t, v0, v1, v2, v3, _, e0, e1, e2, e3, ht⟩ := key (j / 4) (by omega)
    obtain ⟨_, k, n, v, _, A', q, c, _, _, hcs, _⟩ := ht.form
    simp only [List.cons.injEq, and_true] at hcs
    obtain ⟨rfl, rfl, rfl, rfl⟩ := hcs
    have hr : j % 4 = 0 ∨ j % 4 = 1 ∨ j % 4 = 2 ∨ j % 4 = 3 := by omega
    rcases hr with hr | hr | hr | hr
    · exact ⟨_, by rw [show o + j = o + j / 4 * 4 by omega]; exact e0, rfl⟩
    · exact ⟨_, by rw [show o + j = o + j / 4 * 4 + 1 by omega]; exact e1, rfl⟩
    · exact ⟨_, by rw [show o + j = o + j / 4 * 4 + 2 by omega]; exact e2, rfl⟩
    · exact ⟨_, by rw [show o + j = o + j / 4 * 4 + 3 by omega]; exact e3, rfl⟩
  obtain ⟨f, hf⟩ := Deep.choose_lt all
  have get : ∀ j, j < m * 4 → ((List.range (m * 4)).map f)[j]? = some (f j) := fun j hj => by rw [List.getElem?_map, List.getElem?_range hj]; rfl
  refine ⟨⟨b, o, none⟩, (List.range (m * 4)).map f, hA, ⟨by simp [hl], fun i t ht => ?_⟩, by simp, fun j u hj => ?_, fun u hu => ?_⟩
  · have hi : i < m := by have := (List.getElem?_eq_some_iff.1 ht).1; omega
    obtain ⟨t', v0, v1, v2, v3, htt, e0, e1, e2, e3, hct⟩ := key i hi
    rw [ht] at htt
    obtain rfl := Option.some.inj htt
    have h0 := (hf (i * 4) (by omega)).1
    have h1 := (hf (i * 4 + 1) (by omega)).1
    have h2 := (hf (i * 4 + 2) (by omega)).1
    have h3 := (hf (i * 4 + 3) (by omega)).1
    rw [← Nat.add_assoc] at h1 h2 h3
    rw [e0] at h0
    rw [e1] at h1
    rw [e2] at h2
    rw [e3] at h3
    exact ⟨v0, v1, v2, v3, by rw [get _ (by omega), ← Option.some.inj h0], by rw [get _ (by omega), ← Option.some.inj h1], by rw [get _ (by omega), ← Option.some.inj h2], by rw [get _ (by omega), ← Option.some.inj h3], hct⟩
  · have hj' : j < m * 4 := by have := (List.getElem?_eq_some_iff.1 hj).1; simpa using this
    rw [get j hj'] at hj
    rw [← Option.some.inj hj, Addr.add_mid]
    exact (hf j hj').1
  · obtain ⟨j, hj, rfl⟩ := List.mem_map.1 hu
    exact (hf j (List.mem_range.1 hj)).2
/-- A condition over a row of its own. -/
theorem cond_node {w : World} {X : Nat → Prop} {B d m cap : Nat} {k : Int} {n v : ByteArray} {ts : List CT} {cells : List Value} {A : Option Addr} (h : w.ownsRow B 76 4 (.slice A m cap) m cells) (hk : RowC w X d ts cells) (hX : ∀ b, (Value.slice A m cap).ownBlock = some b → X b) (hn : n.size ≤ maxLen) (hv : v.size ≤ maxLen) :
    CondAt w X (d + 1) (.mk k n v ts) [.int .i64 k, .string n, .string v, .slice A m cap] := by
  have hm : ts.length = m := by have := h.1; have := hk.1; omega
  have hmm : m ≤ maxLen ∧ m ≤ cap := by
    rcases h.2 with ⟨_, h0⟩ | ⟨g, c, cur, hv, _, _, h3, h4, _⟩
    · omega
    · injection hv with _ _ hv; subst hv; omega
  refine CondAt.of hn hv hmm.1 hmm.2 ⟨hm, fun h0 => ?_⟩
  obtain ⟨g, c, hv, _, _⟩ := h.form h0
  injection hv with hv _ hv2
  subst hv hv2
  refine ⟨g, 0, rfl, hX g rfl, fun i t ht => ?_⟩
  have hi : i < ts.length := (List.getElem?_eq_some_iff.1 ht).1
  obtain ⟨v0, v1, v2, v3, e0, e1, e2, e3, ht'⟩ := hk.2 i t ht
  simp only [Nat.zero_add]
  exact ⟨v0, v1, v2, v3, by rw [h.cellAt _ (by omega)]; exact e0, by rw [h.cellAt _ (by omega)]; exact e1, by rw [h.cellAt _ (by omega)]; exact e2, by rw [h.cellAt _ (by omega)]; exact e3, ht'⟩
theorem info_partsC {P : Program} {t : TypeId} {z : Value} {n m : Nat} (h : (P.info? t).map (fun i => (i.zero, i.size, i.bytes)) = some (some z, n, m)) : ∃ i, P.info? t = some i ∧ i.zero = some z ∧ i.size = n ∧ i.bytes = m := by
  cases hi : P.info? t with
  | none => rw [hi] at h; cases h
  | some i =>
    rw [hi] at h
    simp only [Option.map_some, Option.some.injEq, Prod.mk.injEq] at h
    exact ⟨i, rfl, h.1, h.2.1, h.2.2⟩
theorem condInfo : (Try.prog.info? 76).map (fun i => (i.zero, i.size, i.bytes)) = some (some (.agg #[.int .i64 0, .string ⟨#[]⟩, .string ⟨#[]⟩, .slice none 0 0]), 4, 64) := by kernel_rfl
/-- append of conditions to a row of its own. -/
theorem append_conds {w : World} {X : Nat → Prop} {B d m c2 : Nat} {S : Value} {ts us : List CT} {cells : List Value} {A2 : Option Addr} (ty : TypeId) (hown : w.ownsRow B 76 4 S ts.length cells) (hk : RowC w X d ts cells) (hu : KidsAt w X d A2 m us) (hm : 0 < m) (hl : ts.length + m ≤ 1000000000) (hB : B ≤ w.heap.size) :
    ∃ A' c' w' cells', (Builtin.append_ #[74, 74] ty #[S, .slice A2 m c2]).run Try.prog w = .ok (.slice A' (ts ++ us).length c') w' ∧ w'.ownsRow B 76 4 (.slice A' (ts ++ us).length c') (ts ++ us).length cells' ∧ RowC w X d (ts ++ us) cells' ∧ w.grownBy w' S.ownBlock ∧
      ((Value.slice A' (ts ++ us).length c').ownBlock = S.ownBlock ∨ (Value.slice A' (ts ++ us).length c').ownBlock = some w.heap.size) := by
  obtain ⟨i0, hi0, hz0, hz1, hz2⟩ := info_partsC condInfo
  obtain ⟨a, news, rfl, hr, hnl, hn, h1⟩ := hu.cells hm
  obtain ⟨v', w', e1, e2, e3, _, e5⟩ := run_append_own_at (P := Try.prog) (w := w) B 74 ty 76 i0 _ 4 64 Try.underlying74 hi0 hz0 hz1 hz2 rfl (by decide) S ts.length cells hown a m c2 news hnl hn h1 (by unfold maxLen; omega) (by omega) hB
  have hul : us.length = m := hu.1
  rw [show ts.length + m = (ts ++ us).length by rw [List.length_append, hul]] at e2
  have hsh : ∃ A' c', v' = .slice A' (ts ++ us).length c' := by
    rcases e2.2 with ⟨e, h0⟩ | ⟨g, cap, cur, e, _⟩
    · exact ⟨none, 0, by rw [e, h0]⟩
    · exact ⟨_, _, e⟩
  obtain ⟨A', c', rfl⟩ := hsh
  exact ⟨A', c', w', _, e1, e2, hk.app hr, e3, e5⟩
/-- One condition that stands in a block of its own. -/
theorem one_kid {w : World} {X : Nat → Prop} {d b : Nat} {t : CT} {v0 v1 v2 v3 : Value} (hb : Blk w b 76 #[v0, v1, v2, v3]) (hX : X b) (ht : CondAt w X d t [v0, v1, v2, v3]) : KidsAt w X d (some ⟨b, 0, none⟩) 1 [t] := by
  obtain ⟨p0, p1, p2, p3⟩ := blkc hb
  refine ⟨rfl, fun _ => ⟨b, 0, rfl, hX, fun i t' hi => ?_⟩⟩
  match i, hi with
  | 0, hi =>
    simp at hi
    subst hi
    exact ⟨v0, v1, v2, v3, by simpa using p0, by simpa using p1, by simpa using p2, by simpa using p3, ht⟩
/-- What a simple condition in the making is in memory. B: the first block that is its own; q: the block of what is made; its row lies apart. -/
structure SAt (B q : Nat) (kk : Int) (n v : ByteArray) (A : Option Addr) (cap : Nat) (acc : List CT) (wr : World) : Prop where
  top : Blk wr q 76 #[.int .i64 kk, .string n, .string v, .slice A acc.length cap]
  low : q < B ∧ B ≤ wr.heap.size
  row : ∃ d cells, wr.ownsRow B 76 4 (.slice A acc.length cap) acc.length cells ∧ RowC wr (fun j => B ≤ j ∧ j < wr.heap.size ∧ (Value.slice A acc.length cap).ownBlock ≠ some j) d acc cells
theorem own_below {w w' : World} {B e sz m : Nat} {v : Value} {xs : List Value} (h : w.ownsRow B e sz v m xs) (hb : Below w.heap.size w w') : w'.ownsRow B e sz v m xs := by
  refine ⟨h.1, ?_⟩
  rcases h.2 with h0 | ⟨g, cap, cur, e, h1, h2, h3⟩
  · exact .inl h0
  · exact .inr ⟨g, cap, cur, e, h1, (hb.block g (Array.getElem?_eq_some_iff.1 h2).1).trans h2, h3⟩
section
variable {B q cap : Nat} {kk : Int} {n v : ByteArray} {A : Option Addr} {acc : List CT} {wr wS : World}
theorem SAt.up (h : SAt B q kk n v A cap acc wr) (hb : Below wr.heap.size wr wS) : SAt B q kk n v A cap acc wS := by
  obtain ⟨d, cells, ho, hk⟩ := h.row
  refine ⟨h.top.below hb h.top.lt, ⟨h.low.1, Nat.le_trans h.low.2 hb.size⟩, d, cells, own_below ho hb, (hk.keep fun j hj => hb.block j hj.2.1).mono fun j hj => ⟨hj.1, Nat.lt_of_lt_of_le hj.2.1 hb.size, hj.2.2⟩⟩
theorem SAt.app {m c2 d2 : Nat} {us acc2 : List CT} {A2 : Option Addr} (ty : TypeId) (he : acc ++ us = acc2) (h : SAt B q kk n v A cap acc wS) (hu : KidsAt wS (fun j => B ≤ j ∧ j < wS.heap.size ∧ (Value.slice A acc.length cap).ownBlock ≠ some j) d2 A2 m us) (hm : 0 < m) (hl : acc.length + m ≤ 1000000000) :
    ∃ A' c' w', (Builtin.append_ #[74, 74] ty #[.slice A acc.length cap, .slice A2 m c2]).run Try.prog wS = .ok (.slice A' acc2.length c') w' ∧ Blk w' q 76 #[.int .i64 kk, .string n, .string v, .slice A acc.length cap] ∧
      SAt B q kk n v A' c' acc2 (w'.setCell ⟨q, 3, none⟩ (.slice A' acc2.length c')) ∧ ∀ B', B' ≤ B → Below B' wS w' := by
  subst he
  obtain ⟨d, cells, ho, hk⟩ := h.row
  obtain ⟨A', c', w', cells', e1, e2, e3, e4, e5⟩ := append_conds ty (c2 := c2) ho (hk.deeper (Nat.le_max_left d d2)) (hu.deeper (Nat.le_max_right d d2)) hm hl h.low.2
  have hap : some q ≠ (Value.slice A acc.length cap).ownBlock := fun e => by have := (ho.lt q e.symm).1; have := h.low.1; omega
  have ht := h.top.grown e4 hap
  have hlow := h.low
  refine ⟨A', c', w', e1, ht, ⟨ht.set_ 3 _, ⟨hlow.1, by simpa [World.setCell] using Nat.le_trans hlow.2 e4.size⟩, max d d2, cells', ownsRow_setCell_below e2 (by exact hlow.1) _, ?_⟩, fun B' hB' => ?_⟩
  · refine (e3.keep (w' := w'.setCell ⟨q, 3, none⟩ (.slice A' (acc ++ us).length c')) fun j hj => ?_).mono fun j hj => ⟨hj.1, ?_, ?_⟩
    · rw [Below.heap_setCell _ _ _ _ (by have := hj.1; show j ≠ q; omega)]
      exact e4.block j hj.2.1 fun e => hj.2.2 e.symm
    · simpa [World.setCell] using Nat.lt_of_lt_of_le hj.2.1 e4.size
    · rcases e5 with e | e
      · rw [e]; exact hj.2.2
      · rw [e]; intro he; injection he with he; have := hj.2.1; omega
  · exact (Below.refl _ _).grown e4 (by omega) fun j hj => by have := (ho.lt j hj).1; omega
end
end Go.Proofs.Ytfgblmdmhgllgaa
