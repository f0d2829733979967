/- Trees of patterns in memory; the reference's Same says true of two that read alike. -/
import Derived.Test.YtjnhmcgjeljcmaaZg
import Derived.Deep.RegionHeld3
namespace Go.Proofs.Ytjnhmcgjeljcmaa
open Go.RowKit

inductive Tr where
  | mk (kind : Int) (rs : List (UInt8 × UInt8)) (kids : List Tr)

/-- The three cells cs are a node that reads as this tree, at most d deep; X: where its blocks may be. -/
def TreeAt (w : World) (X : Nat → Prop) : Nat → Tr → List Value → Prop
  | 0, _, _ => False
  | d + 1, .mk k rs kids, cs => ∃ A n c A' n' c', cs = [.int .i64 k, .slice A n c, .slice A' n' c'] ∧ n ≤ maxLen ∧ (n' ≤ maxLen ∧ n' ≤ c') ∧ RgAt w X A n rs ∧ kids.length = n' ∧
      (0 < n' → ∃ b o, A' = some ⟨b, o, none⟩ ∧ X b ∧ ∀ i t, kids[i]? = some t → ∃ v0 v1 v2, w.cell? ⟨b, o + i * 3, none⟩ = some v0 ∧ w.cell? ⟨b, o + i * 3 + 1, none⟩ = some v1 ∧ w.cell? ⟨b, o + i * 3 + 2, none⟩ = some v2 ∧ TreeAt w X d t [v0, v1, v2])
theorem TreeAt.keep {w w' : World} {X : Nat → Prop} (hk : ∀ b, X b → w'.heap[b]? = w.heap[b]?) : ∀ {d : Nat} {t : Tr} {cs : List Value}, TreeAt w X d t cs → TreeAt w' X d t cs
  | 0, _, _, h => h
  | d + 1, .mk k rs kids, cs, h => by
    obtain ⟨A, n, c, A', n', c', h1, h2, h2', h3, h4, h5⟩ := h
    refine ⟨A, n, c, A', n', c', h1, h2, h2', h3.keep hk, h4, fun hn => ?_⟩
    obtain ⟨b, o, hA, hX, hc⟩ := h5 hn
    refine ⟨b, o, hA, hX, fun i t ht => ?_⟩
    obtain ⟨v0, v1, v2, e0, e1, e2, ht'⟩ := hc i t ht
    have e := hk b hX
    exact ⟨v0, v1, v2, (World.cell?_of_block (a := ⟨b, o + i * 3, none⟩) e).trans e0, (World.cell?_of_block (a := ⟨b, o + i * 3 + 1, none⟩) e).trans e1, (World.cell?_of_block (a := ⟨b, o + i * 3 + 2, none⟩) e).trans e2, ht'.keep hk⟩
theorem TreeAt.mono {w : World} {X Y : Nat → Prop} (hXY : ∀ b, X b → Y b) : ∀ {d : Nat} {t : Tr} {cs : List Value}, TreeAt w X d t cs → TreeAt w Y d t cs
  | 0, _, _, h => h
  | d + 1, .mk k rs kids, cs, h => by
    obtain ⟨A, n, c, A', n', c', h1, h2, h2', h3, h4, h5⟩ := h
    refine ⟨A, n, c, A', n', c', h1, h2, h2', h3.mono hXY, h4, fun hn => ?_⟩
    obtain ⟨b, o, hA, hX, hc⟩ := h5 hn
    refine ⟨b, o, hA, hXY b hX, fun i t ht => ?_⟩
    obtain ⟨v0, v1, v2, e0, e1, e2, ht'⟩ := hc i t ht
    exact ⟨v0, v1, v2, e0, e1, e2, ht'.mono hXY⟩
theorem TreeAt.deeper {w : World} {X : Nat → Prop} : ∀ {d d' : Nat} {t : Tr} {cs : List Value}, TreeAt w X d t cs → d ≤ d' → TreeAt w X d' t cs
  | 0, _, _, _, h, _ => h.elim
  | d + 1, d', .mk k rs kids, cs, h, hd => by
    match d', hd with
    | d' + 1, hd =>
      obtain ⟨A, n, c, A', n', c', h1, h2, h2', h3, h4, h5⟩ := h
      refine ⟨A, n, c, A', n', c', h1, h2, h2', h3, h4, fun hn => ?_⟩
      obtain ⟨b, o, hA, hX, hc⟩ := h5 hn
      refine ⟨b, o, hA, hX, fun i t ht => ?_⟩
      obtain ⟨v0, v1, v2, e0, e1, e2, ht'⟩ := hc i t ht
      exact ⟨v0, v1, v2, e0, e1, e2, ht'.deeper (by omega)⟩
/-- A node's three cells. -/
theorem TreeAt.form {w : World} {X : Nat → Prop} {d : Nat} {t : Tr} {cs : List Value} (h : TreeAt w X d t cs) : ∃ a b c, cs = [a, b, c] := by
  match d, t, h with
  | d + 1, .mk k rs kids, h => obtain ⟨A, n, c, A', n', c', h1, _⟩ := h; exact ⟨_, _, _, h1⟩

theorem bcell {W w1 : World} (hb : Below W.heap.size W w1) : (∀ b o, b < W.heap.size → w1.cell? ⟨b, o, none⟩ = W.cell? ⟨b, o, none⟩) ∧ (∀ b o, b < W.heap.size → w1.frozen? ⟨b, o, none⟩ = W.frozen? ⟨b, o, none⟩) :=
  ⟨fun b o h => hb.cell (p := ⟨b, o, none⟩) h, fun b o h => hb.frozen (p := ⟨b, o, none⟩) h⟩
set_option maxHeartbeats 1000000 in
set_option maxRecDepth 100000 in
theorem same_yes : ∀ (d : Nat) (t : Tr) (a0 a1 a2 b0 b1 b2 : Value) (w : World), TreeAt w (· < w.heap.size) d t [a0, a1, a2] → TreeAt w (· < w.heap.size) d t [b0, b1, b2] →
    Calls Try.prog 18 #[.agg #[a0, a1, a2], .agg #[b0, b1, b2]] w fun e w' => e = .returned (.bool true) ∧ Below w.heap.size w w' := by
  intro d
  induction d with
  | zero => intro t a0 a1 a2 b0 b1 b2 w h; exact h.elim
  | succ d ih =>
    intro t a0 a1 a2 b0 b1 b2 w ha hb
    obtain ⟨k, rs, kids⟩ := t
    obtain ⟨A, n, c, A', n', c', ea, hn, hn', ra, la, ka⟩ := ha
    obtain ⟨B, m, c2, B', m', c2', eb, hm, hm', rb, lb, kb⟩ := hb
    simp only [List.cons.injEq, and_true] at ea eb
    obtain ⟨rfl, rfl, rfl⟩ := ea
    obtain ⟨rfl, rfl, rfl⟩ := eb
    obtain rfl : n = m := ra.1.symm.trans rb.1
    obtain rfl : n' = m' := la.symm.trans lb
    have IH := Lib.hid ih
    clear ih
    unfold maxLen at hn hn'
    go_enter Try.func18, Try.ntmps18
    go_wp2_with fail
    have hp0 : Blk ((w.alloc (.cells #[.int .i64 k, .slice A n c, .slice A' n' c'] 26)).alloc (.cells #[.int .i64 k, .slice B n c2, .slice B' n' c2'] 26)) w.heap.size 26 #[.int .i64 k, .slice A n c, .slice A' n' c'] := (Blk.new w _ _).alloc _
    have hp1 : Blk ((w.alloc (.cells #[.int .i64 k, .slice A n c, .slice A' n' c'] 26)).alloc (.cells #[.int .i64 k, .slice B n c2, .slice B' n' c2'] 26)) (w.heap.size + 1) 26 #[.int .i64 k, .slice B n c2, .slice B' n' c2'] := by simpa using Blk.new (w.alloc (.cells #[.int .i64 k, .slice A n c, .slice A' n' c'] 26)) 26 _
    have hbw := ((Below.refl _ w).alloc (Nat.le_refl _) (.cells #[.int .i64 k, .slice A n c, .slice A' n' c'] 26)).alloc (by simp) (.cells #[.int .i64 k, .slice B n c2, .slice B' n' c2'] 26)
    go_loopw [5] (fun i wr => ∃ j : Nat, j ≤ n ∧ i = .int .i64 j ∧ Blk wr w.heap.size 26 #[.int .i64 k, .slice A n c, .slice A' n' c'] ∧ Blk wr (w.heap.size + 1) 26 #[.int .i64 k, .slice B n c2, .slice B' n' c2'] ∧ Below w.heap.size w wr) (fun i _ => n - (intOf i).toNat)
    case atStart => exact ⟨0, Nat.zero_le _, rfl, hp0, hp1, hbw⟩
    case round =>
      clear hp0 hp1 hbw
      obtain ⟨j, hj, rfl, hp0, hp1, hbw⟩ := hrel
      obtain ⟨p00, p01, p02, _, _, _⟩ := blk3 hp0
      obtain ⟨p10, p11, p12, _, _, _⟩ := blk3 hp1
      by_cases hlt : j < n
      · have hlt' : (j : Int) < (n : Int) := by omega
        obtain ⟨b, o, rfl, hX, hc⟩ := ra.2 (by omega)
        obtain ⟨b', o', rfl, hX', hc'⟩ := rb.2 (by omega)
        have hjr : j < rs.length := by have := ra.1; omega
        obtain ⟨e1, e2⟩ := hc j rs[j] (List.getElem?_eq_getElem hjr)
        obtain ⟨f1, f2⟩ := hc' j rs[j] (List.getElem?_eq_getElem hjr)
        replace e1 := (hbw.cell (p := ⟨b, o + j * 2, none⟩) hX).trans e1
        replace e2 := (hbw.cell (p := ⟨b, o + j * 2 + 1, none⟩) hX).trans e2
        replace f1 := (hbw.cell (p := ⟨b', o' + j * 2, none⟩) hX').trans f1
        replace f2 := (hbw.cell (p := ⟨b', o' + j * 2 + 1, none⟩) hX').trans f2
        clear hc hc'
        generalize rs[j] = r at *
        go_wp2
        go_quiet (fail)
        go_wp2
        go_roundw
        case rel => exact ⟨j + 1, by omega, by go_num, hp0.drewN _, hp1.drewN _, ⟨hbw.os, hbw.tape, hbw.output, hbw.size, hbw.block⟩⟩
        case measure => simp [intOf]; omega
      · obtain rfl : n = j := by omega
        clear hj hlt
        go_wp2_with fail
        go_loopw [6] (fun i w2 => ∃ j : Nat, j ≤ n' ∧ i = .int .i64 j ∧ Blk w2 w.heap.size 26 #[.int .i64 k, .slice A n c, .slice A' n' c'] ∧ Blk w2 (w.heap.size + 1) 26 #[.int .i64 k, .slice B n c2, .slice B' n' c2'] ∧ Below w.heap.size w w2) (fun i _ => n' - (intOf i).toNat)
        case atStart => exact ⟨0, Nat.zero_le _, rfl, hp0, hp1, hbw⟩
        case round =>
          clear hp0 hp1 hbw p00 p01 p02 p10 p11 p12
          obtain ⟨j, hj, rfl, hp0, hp1, hbw⟩ := hrel
          obtain ⟨p00, p01, p02, _, _, _⟩ := blk3 hp0
          obtain ⟨p10, p11, p12, _, _, _⟩ := blk3 hp1
          have hL1 := hp1.lt
          by_cases hlt : j < n'
          · have hlt' : (j : Int) < (n' : Int) := by omega
            have hj0 : (0 : Int) ≤ (j : Int) := by omega
            obtain ⟨b, o, rfl, hX, hc⟩ := ka (by omega)
            obtain ⟨b', o', rfl, hX', hc'⟩ := kb (by omega)
            have hjr : j < kids.length := by omega
            obtain ⟨v0, v1, v2, e0, e1, e2, ht⟩ := hc j kids[j] (List.getElem?_eq_getElem hjr)
            obtain ⟨u0, u1, u2, f0, f1, f2, hu⟩ := hc' j kids[j] (List.getElem?_eq_getElem hjr)
            clear hc hc' ka kb
            replace ht : TreeAt wr (· < wr.heap.size) d kids[j] [v0, v1, v2] := (ht.keep (fun i hi => hbw.block i hi)).mono fun i hi => Nat.lt_of_lt_of_le hi hbw.size
            replace hu : TreeAt wr (· < wr.heap.size) d kids[j] [u0, u1, u2] := (hu.keep (fun i hi => hbw.block i hi)).mono fun i hi => Nat.lt_of_lt_of_le hi hbw.size
            replace e0 := (hbw.cell (p := ⟨b, o + j * 3, none⟩) hX).trans e0
            replace e1 := (hbw.cell (p := ⟨b, o + j * 3 + 1, none⟩) hX).trans e1
            replace e2 := (hbw.cell (p := ⟨b, o + j * 3 + 2, none⟩) hX).trans e2
            replace f0 := (hbw.cell (p := ⟨b', o' + j * 3, none⟩) hX').trans f0
            replace f1 := (hbw.cell (p := ⟨b', o' + j * 3 + 1, none⟩) hX').trans f1
            replace f2 := (hbw.cell (p := ⟨b', o' + j * 3 + 2, none⟩) hX').trans f2
            have HT := Lib.hid (show TreeAt wr.drew (· < wr.drew.heap.size) d kids[j] [v0, v1, v2] from TreeAt.keep (w := wr) (w' := wr.drew) (fun _ _ => rfl) ht)
            have HU := Lib.hid (show TreeAt wr.drew (· < wr.drew.heap.size) d kids[j] [u0, u1, u2] from TreeAt.keep (w := wr) (w' := wr.drew) (fun _ _ => rfl) hu)
            clear ht hu
            generalize kids[j] = tj at *
            have hL0 := hp0.lt
            have hXw : b < wr.heap.size := Nat.lt_of_lt_of_le hX hbw.size
            have hXw' : b' < wr.heap.size := Nat.lt_of_lt_of_le hX' hbw.size
            go_wp2
            go_region_held3 (fun W => W.cell? ⟨w.heap.size, 2, none⟩ = some (.slice (some ⟨b, o, none⟩) n' c') ∧ W.cell? ⟨w.heap.size + 1, 2, none⟩ = some (.slice (some ⟨b', o', none⟩) n' c2') ∧
                W.cell? ⟨b, o + j * 3, none⟩ = some v0 ∧ W.cell? ⟨b, o + j * 3 + 1, none⟩ = some v1 ∧ W.cell? ⟨b, o + j * 3 + 2, none⟩ = some v2 ∧
                W.cell? ⟨b', o' + j * 3, none⟩ = some u0 ∧ W.cell? ⟨b', o' + j * 3 + 1, none⟩ = some u1 ∧ W.cell? ⟨b', o' + j * 3 + 2, none⟩ = some u2) (go_keep)
              ((go_at_call 18; refine (IH.out tj v0 v1 v2 u0 u1 u2 wr.drew HT.out HU.out).mono ?_; rintro e w3 ⟨rfl, hb3⟩
                have g0 := (hb3.cell (p := ⟨w.heap.size, 2, none⟩) hL0).trans p02
                have g1 := (hb3.cell (p := ⟨w.heap.size + 1, 2, none⟩) hL1).trans p12
                have g2 := (hb3.cell (p := ⟨b, o + j * 3, none⟩) hXw).trans e0
                have g3 := (hb3.cell (p := ⟨b, o + j * 3 + 1, none⟩) hXw).trans e1
                have g4 := (hb3.cell (p := ⟨b, o + j * 3 + 2, none⟩) hXw).trans e2
                have g5 := (hb3.cell (p := ⟨b', o' + j * 3, none⟩) hXw').trans f0
                have g6 := (hb3.cell (p := ⟨b', o' + j * 3 + 1, none⟩) hXw').trans f1
                have g7 := (hb3.cell (p := ⟨b', o' + j * 3 + 2, none⟩) hXw').trans f2))
            go_wp2
            have hb4 : Below w.heap.size w w3 := hbw.trans (Below.mono (w := wr) ⟨hb3.os, hb3.tape, hb3.output, hb3.size, hb3.block⟩ hbw.size)
            go_roundw
            case rel => exact ⟨j + 1, by omega, by go_num, (Blk.drew hp0).below hb3 hL0, (Blk.drew hp1).below hb3 hL1, hb4⟩
            case measure => simp [intOf]; omega
          · obtain rfl : n' = j := by omega
            go_wp2
            go_ret
            exact ⟨rfl, hbw⟩
end Go.Proofs.Ytjnhmcgjeljcmaa
