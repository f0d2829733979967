/- rex.alternation. -/
import Derived.Test.YtjnhmcgjeljcmaaXr
import Derived.Test.YtjnhmcgjeljcmaaXu
namespace Go.Proofs.Ytjnhmcgjeljcmaa
open Go.RowKit

/-- The parts read so far, in a row of their own; the cursor in block b. -/
def ARow (w : World) (b : Nat) (s : ByteArray) (k : Nat) (wr : World) (v : Value) (acc : List Tr) : Prop := ∃ d cells, wr.ownsRow (w.heap.size + 1) 26 3 v acc.length cells ∧ KidsAt wr (fun j => w.heap.size + 1 ≤ j ∧ j < wr.heap.size ∧ v.ownBlock ≠ some j) d acc cells ∧
  Blk wr w.heap.size 26 #[.int .i64 0, .slice none 0 0, .slice none 0 0] ∧ Cur wr b s k ∧ w.grownBy wr (some b)
theorem ownsRow_lit3 (w : World) (B e : Nat) (v0 v1 v2 : Value) (hB : B ≤ w.heap.size) : (w.alloc (.cells #[v0, v1, v2] e)).ownsRow B e 3 (.slice (some ⟨w.heap.size, 0, none⟩) 1 1) 1 [v0, v1, v2] :=
  ⟨rfl, .inr ⟨w.heap.size, 1, _, rfl, hB, heap_alloc_new w _, Nat.le_refl _, by decide, rfl, rfl⟩⟩
theorem ARow.start {w w1 : World} {b k d : Nat} {s : ByteArray} {t : Tr} {v0 v1 v2 : Value} (hb : b < w.heap.size) (g1 : (w.alloc (.cells #[.int .i64 0, .slice none 0 0, .slice none 0 0] 26)).grownBy w1 (some b))
    (hc : Cur w1 b s k) (ht : TreeAt w1 (Fresh (w.alloc (.cells #[.int .i64 0, .slice none 0 0, .slice none 0 0] 26)) w1) d t [v0, v1, v2]) :
    ARow w b s k (w1.alloc (.cells #[v0, v1, v2] 26)) (.slice (some ⟨w1.heap.size, 0, none⟩) 1 1) [t] := by
  have hs := g1.size
  simp at hs
  refine ⟨d, [] ++ [v0, v1, v2], ownsRow_lit3 w1 _ _ v0 v1 v2 (by omega), KidsAt.snoc (ts := []) (KidsAt.nil _ _ _) ?_, ((Blk.new w 26 _).grown g1 (by simp; omega)).alloc _, Blk.alloc hc _, gb_alloc (gb_trans (gb_alloc (gb_refl _ _) _) g1) _⟩
  refine (ht.keep fun j hj => Below.heap_alloc _ _ _ hj.2).mono fun j hj => ⟨?_, ?_, ?_⟩
  · have := hj.1; simp at this; exact this
  · have := hj.2; simp; omega
  · have := hj.2; simp [Value.ownBlock]; omega
theorem ARow.grown {w wr w2 : World} {b k k2 : Nat} {s : ByteArray} {v : Value} {acc : List Tr} (hb : b < w.heap.size) (h : ARow w b s k wr v acc) (g : wr.grownBy w2 (some b)) (hc : Cur w2 b s k2) : ARow w b s k2 w2 v acc := by
  obtain ⟨d, cells, h1, h2, h3, h4, h5⟩ := h
  refine ⟨d, cells, own_grown h1 g (by omega), ?_, h3.grown g (by simp; omega), hc, gb_trans h5 g⟩
  exact (h2.keep fun j hj => g.block j hj.2.1 (by have := hj.1; simp; omega)).mono fun j hj => ⟨hj.1, by have := hj.2.1; have := g.size; omega, hj.2.2⟩
theorem TreeAt.shape {w : World} {X : Nat → Prop} {d : Nat} {t : Tr} {v0 v1 v2 : Value} (h : TreeAt w X d t [v0, v1, v2]) : ∃ k A n c A' n' c', v0 = .int .i64 k ∧ v1 = .slice A n c ∧ v2 = .slice A' n' c' := by
  cases d with
  | zero => exact h.elim
  | succ d =>
    cases t with
    | mk k rs kids =>
      obtain ⟨A, n, c, A', n', c', hv, _⟩ := h
      injection hv with h0 hv
      injection hv with h1 hv
      injection hv with h2 _
      exact ⟨k, A, n, c, A', n', c', h0, h1, h2⟩
theorem ARow.cur {w wr : World} {b k : Nat} {s : ByteArray} {v : Value} {acc : List Tr} (h : ARow w b s k wr v acc) : Cur wr b s k := by
  obtain ⟨d, cells, h1, h2, h3, h4, h5⟩ := h
  exact h4
theorem ARow.step {w wr w3 w4 : World} {b k d d3 g cap2 H : Nat} {s : ByteArray} {acc : List Tr} {v : Value} {cells : List Value} {t : Tr} {v0 v1 v2 : Value} (hb : b < w.heap.size)
    (hown : wr.ownsRow (w.heap.size + 1) 26 3 v acc.length cells) (hkids : KidsAt wr (fun j => w.heap.size + 1 ≤ j ∧ j < wr.heap.size ∧ v.ownBlock ≠ some j) d acc cells)
    (hblk : Blk wr w.heap.size 26 #[.int .i64 0, .slice none 0 0, .slice none 0 0]) (gw : w.grownBy wr (some b))
    (g3 : wr.grownBy w3 (some b)) (ht3 : TreeAt w3 (Fresh wr w3) d3 t [v0, v1, v2]) (hc3 : Cur w3 b s k)
    (hgrow : (w3.alloc (.cells #[v0, v1, v2] 26)).grownBy w4 v.ownBlock)
    (hown4 : w4.ownsRow (w.heap.size + 1) 26 3 (.slice (some ⟨g, 0, none⟩) (acc.length + 1) cap2) (acc.length + 1) (cells ++ [v0, v1, v2]))
    (hat : v.ownBlock = some g ∨ g = H) (hH : w3.heap.size < H) : ARow w b s k w4 (.slice (some ⟨g, 0, none⟩) (acc.length + 1) cap2) (acc ++ [t]) := by
  have hs3 := g3.size
  have hs4 : w3.heap.size + 1 ≤ w4.heap.size := by have := hgrow.size; simpa using this
  have hlen : (acc ++ [t]).length = acc.length + 1 := by simp
  have hap : ∀ j, j < w.heap.size + 1 → some j ≠ v.ownBlock := fun j hj => own_apart hown hj
  have hown_lt : ∀ j, v.ownBlock = some j → w.heap.size + 1 ≤ j ∧ j < wr.heap.size := fun j hj => hown.lt j hj
  have keep : ∀ j, j < w3.heap.size → some j ≠ v.ownBlock → w4.heap[j]? = w3.heap[j]? := by
    intro j h3 h4
    rw [hgrow.block j (by simp; omega) h4, Below.heap_alloc _ _ _ h3]
  refine ⟨max d d3, cells ++ [v0, v1, v2], by rw [hlen]; exact hown4, KidsAt.snoc ?_ ?_, ?_, ?_, ?_⟩
  · refine ((hkids.keep (w' := w4) fun j hj => ?_).mono fun j hj => ⟨hj.1, ?_, ?_⟩).deeper (Nat.le_max_left _ _)
    · rw [keep j (by have := hj.2.1; omega) (fun e => hj.2.2 e.symm)]
      exact g3.block j hj.2.1 (by have := hj.1; simp; omega)
    · have := hj.2.1; omega
    · simp only [Value.ownBlock, ne_eq, Option.some.injEq]
      rintro rfl
      rcases hat with h | h
      · exact hj.2.2 h
      · have := hj.2.1; omega
  · refine ((TreeAt.keep (w' := w4) (fun j hj => ?_) ht3).mono fun j hj => ⟨?_, ?_, ?_⟩).deeper (Nat.le_max_right _ _)
    · exact keep j hj.2 (fun e => by have := hown_lt j e.symm; have := hj.1; omega)
    · have := hj.1; have := gw.size; have := hblk.lt; omega
    · have := hj.2; omega
    · have h1 := hj.1
      have h2 := hj.2
      simp only [Value.ownBlock, ne_eq, Option.some.injEq]
      rintro rfl
      rcases hat with h | h
      · have := hown_lt _ h; omega
      · omega
  · exact ((hblk.grown g3 (by simp; omega)).alloc _).grown hgrow (hap _ (by omega))
  · exact (Blk.alloc hc3 _).grown hgrow (hap b (by omega))
  · exact gb_step (gb_alloc (gb_trans gw g3) _) hgrow (fun j hj => Or.inr (by have := hown_lt j hj; omega))
theorem altK_stop {Al : List UInt8 → Pr} {f : Nat} {l : List UInt8} {acc : List Tr} {m : Nat} (h : starts [124] l = false) : altK Al (f + 1) l acc m = .ok (altEnd acc) m := by
  unfold altK; rw [if_neg (by rw [h]; simp)]
  rcases acc with _ | ⟨a, _ | ⟨c, l⟩⟩ <;> rfl
theorem altK_err {Al : List UInt8 → Pr} {f : Nat} {l : List UInt8} {acc : List Tr} {m o : Nat} {c : Int} (h : starts [124] l = true) (hp : partX Al (l.drop 1) = .err c o) : altK Al (f + 1) l acc m = .err c (m + (1 + o)) := by
  unfold altK; rw [if_pos h, hp]
theorem altK_ok {Al : List UInt8 → Pr} {f : Nat} {l : List UInt8} {acc : List Tr} {m n : Nat} {t : Tr} (h : starts [124] l = true) (hp : partX Al (l.drop 1) = .ok t n) : altK Al (f + 1) l acc m = altK Al f (l.drop (1 + n)) (acc ++ [t]) (m + (1 + n)) := by
  conv => lhs; unfold altK
  rw [if_pos h, hp]

set_option maxHeartbeats 2000000 in
set_option maxRecDepth 100000 in
theorem alt_any (d : Nat) (b k : Nat) (s : ByteArray) (w : World) (hc : Cur w b s k) (hk : k ≤ s.size) (hs : s.size ≤ 256) (hA : ∀ j, k < j → j ≤ s.size → IsAl (altX d) b s j) :
    Calls Try.prog 54 #[.pointer (some ⟨b, 0, none⟩)] w (NPost w b s k (altX (d + 1) (restL s k))) := by
  obtain ⟨i0, hi0, hz0, hz1, hz2⟩ := info_parts nodeInfo
  have hsm : s.size ≤ maxLen := by unfold maxLen; omega
  have hb0 : b < w.heap.size := Blk.lt hc
  have HPA := Lib.hid (fun k2 W (hk2 : k ≤ k2) (h2s : k2 ≤ s.size) (hcW : Cur W b s k2) => part_any (altX d) b k2 s W hcW h2s hs (fun j hj hjs => hA j (by omega) hjs))
  clear hA
  cases hp : partX (altX d) (restL s k) with
  | err c o =>
    have HP := Lib.hid hp
    have HR := Lib.hid (show altX (d + 1) (restL s k) = .err c o by unfold altX; rw [hp])
    rw [HR.out]
    clear hp HR
    go_enter Try.func54, Try.ntmps54
    go_wp2_with fail
    refine (HPA.out k _ (Nat.le_refl _) hk (Blk.alloc hc _)).mono ?_
    intro e w1 hp
    obtain ⟨rfl, g1⟩ := hp.err_ HP.out
    clear hp
    go_wp2
    exact ⟨rfl, rfl, gb_trans (gb_alloc (gb_refl _ _) _) g1⟩
  | ok t n =>
    have hn := partX_bd hp
    rw [rest_len] at hn
    have HP := Lib.hid hp
    have hf : s.size - (k + n) < (restL s k).length + 1 := by rw [rest_len]; omega
    generalize hR : altX (d + 1) (restL s k) = R
    have hR0 : R = altK (altX d) ((restL s k).length + 1) (restL s (k + n)) [t] (k + n - k) := by rw [← hR]; unfold altX; rw [hp]; simp only [rest_drop, Nat.add_sub_cancel_left]
    generalize (restL s k).length + 1 = F at hf hR0
    have HR := Lib.hid hR0
    clear hp hR hR0
    go_enter Try.func54, Try.ntmps54
    go_wp2_with fail
    refine (HPA.out k _ (Nat.le_refl _) hk (Blk.alloc hc _)).mono ?_
    intro e w1 hp
    obtain ⟨⟨d1, kk, A, m, c, A', m', c', rfl, ht⟩, hc1, g1⟩ := hp.ok_ HP.out
    have HS := Lib.hid (ARow.start hb0 g1 hc1 ht)
    clear hp ht hc1 g1 HP
    go_wp2_with fail
    go_loopw [3] (fun v wr => ∃ (f k2 : Nat) (acc : List Tr), s.size - k2 < f ∧ k ≤ k2 ∧ k2 ≤ s.size ∧ 0 < acc.length ∧ acc.length ≤ k2 + 1 ∧ R = altK (altX d) f (restL s k2) acc (k2 - k) ∧ ARow w b s k2 wr v acc) (fun _ wr => s.size - posOf wr b)
    case atStart => exact ⟨F, k + n, [t], hf, by omega, by omega, by simp, by simp, HR.out, HS.out⟩
    case round =>
      obtain ⟨f, k2, acc, hf2, hkk, h2s, hap, hal, hRR, har⟩ := hrel
      obtain ⟨f, rfl⟩ : ∃ f', f = f' + 1 := ⟨f - 1, by omega⟩
      have HRR := Lib.hid hRR
      have hcr := har.cur
      have HAR := Lib.hid har
      clear hRR HR HS har
      cases h1 : isB [124] s k2
      · have HR1 := Lib.hid (show R = .ok (altEnd acc) (k2 - k) by rw [HRR.out, altK_stop (by rw [← preB_starts]; exact h1)])
        go_wp2_with fail
        refine (skip_no b k2 s ⟨#[124]⟩ _ hcr h2s h1).mono ?_
        rintro e w2 ⟨rfl, hc2, g2⟩
        obtain ⟨d2, cells, hown, hkids, hblk, hc3, gw⟩ := HAR.out.grown hb0 g2 hc2
        obtain ⟨g, cp, rfl, _, _⟩ := hown.form hap
        obtain ⟨p0, p1, p2, z0, z1, z2⟩ := blk3 hblk
        have hlw := hblk.lt
        clear HAR g2 hc2 hcr
        by_cases hone : acc.length = 1
        · obtain ⟨t1, rfl⟩ : ∃ t1, acc = [t1] := by
            match acc, hone with
            | [t1], _ => exact ⟨t1, rfl⟩
          obtain ⟨v0, v1, v2, e0, e1, e2, ht⟩ := hkids.2 0 t1 rfl
          obtain ⟨kk, B, q, u, B', q', u', hv0, hv1, hv2⟩ := ht.shape
          have c0 : w2.cell? ⟨g, 0, none⟩ = some v0 := by rw [hown.cellAt 0 (by simp)]; exact e0
          have c1 : w2.cell? ⟨g, 1, none⟩ = some v1 := by rw [hown.cellAt 1 (by simp)]; exact e1
          have c2 : w2.cell? ⟨g, 2, none⟩ = some v2 := by rw [hown.cellAt 2 (by simp)]; exact e2
          have HT := Lib.hid (ht.mono (Y := fun j => w.heap.size + 1 ≤ j ∧ j < w2.heap.size) fun j hj => ⟨hj.1, hj.2.1⟩)
          subst hv0 hv1 hv2
          clear ht hkids hown
          go_wp2
          rw [HR1.out]
          refine bodyPost_ret (v := .agg #[.int .i64 kk, .slice B q u, .slice B' q' u']) (by simp [results, Try.results54, go_sem, *]) rfl ?_
          have := node_end HT.out hc3 gw hb0 (.int .i64 kk) (.slice B q u) (.slice B' q' u')
          refine ⟨this.1, ?_, this.2.2⟩
          rw [show k + (k2 - k) = k2 + 0 by omega]
          exact this.2.1
        · have hne : ((acc.length : Int) == 1) = false := by simp; omega
          have HE := Lib.hid (show altEnd acc = .mk 3 [] acc by
            match acc, hone with
            | [], _ => rfl
            | [_], h => exact absurd rfl h
            | _ :: _ :: _, _ => rfl)
          have HT := Lib.hid (tree_node (k := 3) hown (hkids.mono (Y := fun j => w.heap.size + 1 ≤ j ∧ j < w2.heap.size) fun j hj => ⟨hj.1, hj.2.1⟩) (fun j hj => hown.lt j hj))
          clear hkids hown hone
          go_wp2
          rw [HR1.out, HE.out]
          refine bodyPost_ret (v := .agg #[.int .i64 3, .slice none 0 0, .slice (some ⟨g, 0, none⟩) acc.length cp]) (by simp [results, Try.results54, go_sem, *]) rfl ?_
          have := node_end HT.out hc3 gw hb0 (.int .i64 3) (.slice none 0 0) (.slice (some ⟨g, 0, none⟩) acc.length cp)
          refine ⟨this.1, ?_, this.2.2⟩
          rw [show k + (k2 - k) = k2 + 0 by omega]
          exact this.2.1
      · have hl := isB_le h1
        simp at hl
        cases hp : partX (altX d) (restL s (k2 + 1)) with
        | err c o =>
          have HP := Lib.hid hp
          have HR1 := Lib.hid (show R = .err c (k2 - k + (1 + o)) by rw [HRR.out, altK_err (by rw [← preB_starts]; exact h1) (by rw [rest_drop]; exact hp)])
          clear hp
          go_wp2_with fail
          refine (skip_yes b k2 s ⟨#[124]⟩ _ hcr h2s hsm h1).mono ?_
          rintro e w2 ⟨rfl, hc2, g2⟩
          have har2 := HAR.out.grown hb0 g2 hc2
          obtain ⟨d2, cells, hown, hkids, hblk, hc3, gw⟩ := har2
          clear HAR g2 hc2 hcr
          go_wp2_with fail
          refine (HPA.out (k2 + 1) _ (by omega) (by omega) hc3).mono ?_
          intro e w3 hp
          obtain ⟨rfl, g3⟩ := hp.err_ HP.out
          clear hp
          go_wp2
          rw [HR1.out]
          exact ⟨rfl, flaw_eq (show k2 + 1 + o = k + (k2 - k + (1 + o)) by omega), gb_trans gw g3⟩
        | ok t1 n1 =>
          have hn1 := partX_bd hp
          rw [rest_len] at hn1
          have HP := Lib.hid hp
          have HR1 := Lib.hid (show R = altK (altX d) f (restL s (k2 + 1 + n1)) (acc ++ [t1]) (k2 + 1 + n1 - k) by
            rw [HRR.out, altK_ok (by rw [← preB_starts]; exact h1) (by rw [rest_drop]; exact hp), rest_drop, show k2 + (1 + n1) = k2 + 1 + n1 by omega, show k2 - k + (1 + n1) = k2 + 1 + n1 - k by omega])
          have HPO := Lib.hid (posOf_cur hcr)
          clear hp
          go_wp2_with fail
          refine (skip_yes b k2 s ⟨#[124]⟩ _ hcr h2s hsm h1).mono ?_
          rintro e w2 ⟨rfl, hc2, g2⟩
          have har2 := HAR.out.grown hb0 g2 hc2
          obtain ⟨d2, cells, hown, hkids, hblk, hc3, gw⟩ := har2
          clear HAR g2 hc2 hcr
          go_wp2_with fail
          refine (HPA.out (k2 + 1) _ (by omega) (by omega) hc3).mono ?_
          intro e w3 hp
          obtain ⟨⟨d3, kk, A3, n3, c3, A3', n3', c3', rfl, ht3⟩, hc4, g3⟩ := hp.ok_ HP.out
          have hown3 := own_grown hown g3 (by omega)
          have hs3 := g3.size
          have hs2 := hblk.lt
          have HT3 := Lib.hid ht3
          clear ht3 hp
          go_wp2_with (at_builtin; refine wpList_append_lies _ rfl (.tmp 9) (.tmp 12) 24 rfl (w.heap.size + 1) 26 i0 _ 3 56 Try.underlying24 hi0 hz0 hz1 hz2 rfl (by decide) _ _ _ rfl (hown3.alloc _) ⟨w3.heap.size, 0, none⟩ 1 1 [.int .i64 kk, .slice A3 n3 c3, .slice A3' n3' c3'] rfl rfl (World.news_of_block (heap_alloc_new w3 _)) (three_one _ _ _ _ _ _ _) (by decide) (by unfold maxLen; omega) (by omega) (by simp; omega) _ rfl ?_)
          intro g cap2 w4 hown4 hgrow hat hlt4
          have HS := Lib.hid (ARow.step hb0 hown hkids hblk gw g3 HT3.out hc4 hgrow hown4 hat (by simp))
          have HC4 := Lib.hid (posOf_cur HS.out.cur)
          go_wp2
          go_roundw
          case rel => exact ⟨f, k2 + 1 + n1, acc ++ [t1], by omega, by omega, by omega, by simp, by simp; omega, HR1.out, HS.out⟩
          case measure => rw [HC4.out, HPO.out]; omega
/-- rex.alternation reads altX d, where fewer than d bytes are left. -/
theorem isAl_any (b : Nat) (s : ByteArray) (hs : s.size ≤ 256) : ∀ (d k : Nat), k ≤ s.size → s.size - k < d → IsAl (altX d) b s k
  | 0, k, hk, h => by omega
  | d + 1, k, hk, h => by
    refine ⟨fun w hc => alt_any d b k s w hc hk hs fun j hj hjs => isAl_any b s hs d j hjs (by omega), fun t n e => ?_⟩
    have := altX_bd e
    rw [rest_len] at this; omega
end Go.Proofs.Ytjnhmcgjeljcmaa
