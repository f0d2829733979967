/- The law's few; plain: a tree again and again. -/
import Derived.Test.YtgcbcdbfeaepkaaOza
namespace Go.Proofs.Ytgcbcdbfeaepkaa
open Go.RowKit Go.Maps

def FewPost (w : World) (d : Nat) (t : Tr) (s : ByteArray) (e : Ending) (w' : World) : Prop := ∃ b : Bool, e = .returned (.bool b) ∧ (b = true → highT d t ≤ 60 ∧ nodesT d t ≤ 40 ∧ s.size ≤ 30) ∧ Below w.heap.size w w'
set_option maxHeartbeats 1000000 in
set_option maxRecDepth 100000 in
theorem few_any {d : Nat} {t : Tr} {v0 v1 v2 : Value} {w : World} (h : TreeAt w (· < w.heap.size) d t [v0, v1, v2]) (s : ByteArray) : Calls Try.prog 15 #[.agg #[v0, v1, v2], .string s] w (FewPost w d t s) := by
  obtain ⟨k, A, n, c, A', n', c', rfl, rfl, rfl⟩ := tree_shape h
  have hb0 : Below w.heap.size w (w.alloc (.cells #[.int .i64 k, .slice A n c, .slice A' n' c'] 25)) := (Below.refl _ w).alloc (Nat.le_refl _) _
  have kx := Blk.new w 25 #[.int .i64 k, .slice A n c, .slice A' n' c']
  have HD := Lib.hid (show Calls Try.prog 50 #[.agg #[.int .i64 k, .slice A n c, .slice A' n' c'], .int .i64 60] (w.alloc (.cells #[.int .i64 k, .slice A n c, .slice A' n' c'] 25)) (DeepPost _ d t 60) from deep_any d t _ _ _ _ 60 (tree_below h hb0) (by decide))
  have HB0 := Lib.hid hb0
  have HK0 := Lib.hid kx
  have HT := Lib.hid h
  clear hb0 kx h
  go_enter Try.func15, Try.ntmps15
  go_wp2_with fail
  refine HD.out.mono ?_
  rintro e w2 ⟨bd, rfl, hbd, b2⟩
  have HB2 := Lib.hid (HB0.out.trans (b2.mono HB0.out.size))
  have HK2 := Lib.hid (node_cells HK0.out b2)
  clear b2 HD HB0 HK0
  cases bd with
  | true =>
    clear hbd
    go_wp2_with fail
    go_ret
    exact ⟨false, rfl, (fun h => nomatch h), HB2.out⟩
  | false =>
    have HH := Lib.hid (hbd rfl)
    clear hbd
    obtain ⟨k0, k1, k2, -, -, -⟩ := blk3 HK2.out
    have HC := Lib.hid (show Calls Try.prog 51 #[.agg #[.int .i64 k, .slice A n c, .slice A' n' c'], .int .i64 41] w2 (RCPost w2 d t 41) from rcount_any d t _ _ _ w2 41 (tree_below HT.out HB2.out) (by decide) (by decide))
    go_wp2_with fail
    refine HC.out.mono ?_
    rintro e w3 ⟨r, rfl, hr1, hr2, b3⟩
    have HB3 := Lib.hid (HB2.out.trans (b3.mono HB2.out.size))
    clear k0 k1 k2 b3 HC HB2 HK2
    by_cases hr : r ≤ 40
    · have hr' : (r : Int) ≤ 40 := by omega
      have HN := Lib.hid (show nodesT d t ≤ 40 by have := hr2 (by omega); omega)
      clear hr2
      by_cases hs : s.size ≤ 30
      · have hs' : (s.size : Int) ≤ 30 := by omega
        go_wp2_with fail
        go_ret
        exact ⟨true, rfl, fun _ => ⟨HH.out, HN.out, hs⟩, HB3.out⟩
      · have hs' : ¬ (s.size : Int) ≤ 30 := by omega
        go_wp2_with fail
        go_ret
        exact ⟨_, rfl, (fun h => by have := of_decide_eq_true h; omega), HB3.out⟩
    · have hr' : ¬ (r : Int) ≤ 40 := by omega
      clear hr2
      go_wp2_with fail
      go_ret
      exact ⟨false, rfl, (fun h => nomatch h), HB3.out⟩
theorem nodes_one {d : Nat} {k : Int} {t : Tr} : nodesT (d + 1) (.mk k [] [t]) = 1 + nodesT d t := by show 1 + ([t].map (nodesT d)).sum = _; simp
theorem high_one {d : Nat} {k : Int} {t : Tr} : highT (d + 1) (.mk k [] [t]) = 1 + highT d t := by show 1 + ([t].map (highT d)).foldr max 0 = _; simp
theorem good_one {d : Nat} {k : Int} {t : Tr} (h : GoodT d t) (h1 : 4 ≤ k) (h2 : k ≤ 6) : GoodT (d + 1) (.mk k [] [t]) := ⟨by omega, by omega, (fun _ e => by cases e), fun u hu => by rw [List.mem_singleton.1 hu]; exact h⟩
theorem wrong_one {d : Nat} {k : Int} {t : Tr} (h : wrongT d t = true) : wrongT (d + 1) (.mk k [] [t]) = true := by
  show (wrong1 k 1 || [t].any (wrongT d)) = true
  simp [h]
section
variable {s : List UInt8} {d f u : Nat} {t : Tr}
theorem star_iff {i j : Nat} : Mt s (d + 1) (.mk 4 [] [t]) i j ↔ ∃ c, itR (Mt s d t) c i j := Iff.rfl
theorem plus_iff {i j : Nat} : Mt s (d + 1) (.mk 5 [] [t]) i j ↔ ∃ c, itR (Mt s d t) (c + 1) i j := Iff.rfl
theorem star_twice {i j : Nat} : Mt s (d + 2) (.mk 4 [] [.mk 4 [] [t]]) i j ↔ Mt s (d + 1) (.mk 4 [] [t]) i j := by
  constructor
  · rintro ⟨c, h⟩
    induction c generalizing i with
    | zero => obtain rfl : i = j := h; exact ⟨0, rfl⟩
    | succ c ih =>
      obtain ⟨m, ⟨a, h1⟩, h2⟩ := h
      obtain ⟨b, h3⟩ := ih h2
      exact ⟨a + b, itR_app h1 h3⟩
  · intro h; exact ⟨1, j, h, rfl⟩
/-- What a Star takes: the greatest of its places. -/
theorem star_val {r : Int} (hf : f ≤ s.length) (h : lonR s (d + 1) (.mk 4 [] [t]) (f : Nat) r) : ∃ u : Nat, r = (u : Nat) ∧ f ≤ u ∧ u ≤ s.length ∧ Mt s (d + 1) (.mk 4 [] [t]) f u ∧ ∀ k, u < k → k ≤ s.length → ¬ Mt s (d + 1) (.mk 4 [] [t]) f k := by
  rcases h with ⟨ho, -⟩ | ⟨g, eg, hg, hc⟩
  · omega
  · obtain rfl : f = g := by clear hc; omega
    rcases hc with ⟨_, hn⟩ | ⟨u, e, hu, hm, hl⟩
    · exact absurd ⟨0, rfl⟩ (hn f hf)
    · exact ⟨u, e, (Mt_le _ _ _ _ hm hf).1, hu, hm, hl⟩
theorem twice_lon (hf : f ≤ s.length) (hu : u ≤ s.length) (hm : Mt s (d + 1) (.mk 4 [] [t]) f u) (hl : ∀ k, u < k → k ≤ s.length → ¬ Mt s (d + 1) (.mk 4 [] [t]) f k) : lonR s (d + 2) (.mk 4 [] [.mk 4 [] [t]]) (f : Nat) (u : Nat) :=
  .inr ⟨f, rfl, hf, .inr ⟨u, rfl, hu, star_twice.2 hm, fun k h1 h2 h3 => hl k h1 h2 (star_twice.1 h3)⟩⟩
/-- What the tree itself takes, from a place within the Star's way. -/
theorem one_le {g : Nat} {r : Int} (hf : f ≤ s.length) (hg : Mt s (d + 1) (.mk 4 [] [t]) f g) (hl : ∀ k, u < k → k ≤ s.length → ¬ Mt s (d + 1) (.mk 4 [] [t]) f k) (h : lonR s d t (g : Nat) r) : r ≤ (u : Int) := by
  rcases h with ⟨_, e⟩ | ⟨x, ex, hx, hc⟩
  · omega
  · obtain rfl : g = x := by clear hc; omega
    rcases hc with ⟨e, _⟩ | ⟨y, e, hy, hm, _⟩
    · omega
    · obtain ⟨c, hc⟩ := hg
      have : ¬ u < y := fun hlt => hl y hlt hy ⟨c + 1, itR_snoc hc hm⟩
      omega
theorem one_none {r : Int} (hf : f ≤ s.length) (h : lonR s d t (f : Nat) r) (hr : r < 0) (hm : Mt s (d + 1) (.mk 4 [] [t]) f u) : u = f ∧ lonR s (d + 1) (.mk 5 [] [t]) (f : Nat) (-1) := by
  have hn : ∀ k, k ≤ s.length → ¬ Mt s d t f k := by
    rcases h with ⟨ho, _⟩ | ⟨x, ex, hx, hc⟩
    · omega
    · obtain rfl : f = x := by clear hc; omega
      rcases hc with ⟨_, hn⟩ | ⟨y, e, _⟩
      · exact hn
      · omega
  refine ⟨?_, .inr ⟨f, rfl, hf, .inl ⟨rfl, ?_⟩⟩⟩
  · obtain ⟨c, hc⟩ := hm
    match c, hc with
    | 0, hc => exact (show f = u from hc).symm
    | c + 1, ⟨m, h1, h2⟩ => exact absurd h1 (hn m (Mt_le _ _ _ _ h1 hf).2)
  · rintro k _ ⟨c, m, h1, _⟩
    exact hn m (Mt_le _ _ _ _ h1 hf).2 h1
theorem one_some {r : Int} (hf : f ≤ s.length) (h : lonR s d t (f : Nat) r) (hr : ¬ r < 0) (hu : u ≤ s.length) (hm : Mt s (d + 1) (.mk 4 [] [t]) f u) (hl : ∀ k, u < k → k ≤ s.length → ¬ Mt s (d + 1) (.mk 4 [] [t]) f k) : lonR s (d + 1) (.mk 5 [] [t]) (f : Nat) (u : Nat) := by
  refine .inr ⟨f, rfl, hf, .inr ⟨u, rfl, hu, ?_, fun k h1 h2 ⟨c, hc⟩ => hl k h1 h2 ⟨c + 1, hc⟩⟩⟩
  obtain ⟨y, hy, hmy⟩ : ∃ y, y ≤ s.length ∧ Mt s d t f y := by
    rcases h with ⟨ho, _⟩ | ⟨x, ex, hx, hc⟩
    · omega
    · obtain rfl : f = x := by clear hc; omega
      rcases hc with ⟨e, _⟩ | ⟨y, _, hy, hm, _⟩
      · omega
      · exact ⟨y, hy, hm⟩
  obtain ⟨c, hc⟩ := hm
  match c, hc with
  | c + 1, hc => exact ⟨c, hc⟩
  | 0, hc =>
    obtain rfl : f = u := hc
    have h1 := (Mt_le _ _ _ _ hmy hf).1
    have h2 : ¬ f < y := fun hlt => hl y hlt hy ⟨1, y, hmy, rfl⟩
    obtain rfl : f = y := by omega
    exact ⟨0, f, hmy, rfl⟩
end
theorem PAt.ltL {w : World} {X : Nat → Prop} {pp d : Nat} {t : Tr} (h : PAt w X pp d t) : pp < w.heap.size := by obtain ⟨st, hm⟩ := h; exact hm.old hm.at_
theorem PAt.old {w : World} {X : Nat → Prop} {pp d : Nat} {t : Tr} (h : PAt w X pp d t) {j : Nat} (hj : X j) : j < w.heap.size := by obtain ⟨st, hm⟩ := h; exact hm.old hj
theorem step3L {w0 wA wB wC : World} {o : Obj} (hA : Below w0.heap.size w0 wA) (hB : Below (wA.alloc o).heap.size (wA.alloc o) wB) (hC : Below wB.heap.size wB wC) : Below w0.heap.size w0 wC ∧ w0.heap.size ≤ wB.heap.size := by
  have h1 := hA.alloc hA.size o
  have h2 := h1.trans (hB.mono h1.size)
  exact ⟨h2.trans (hC.mono h2.size), h2.size⟩
end Go.Proofs.Ytgcbcdbfeaepkaa
