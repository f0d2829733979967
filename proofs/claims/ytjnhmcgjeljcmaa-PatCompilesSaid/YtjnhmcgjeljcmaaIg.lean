/- Plain facts: where an alternation ends. No program. Two rows of trees in one memory: what an alternation has read. -/
import Derived.Test.YtjnhmcgjeljcmaaXw
import Derived.Test.YtjnhmcgjeljcmaaIe
namespace Go.Proofs.Ytjnhmcgjeljcmaa

theorem goF_at (Al : List UInt8 → Pr) : ∀ (N : Nat) (cur : List Tr) (l : List UInt8), l.length ≤ N → ∀ ps n, goF Al cur l = .ok ps n →
    n ≤ l.length ∧ ((l.drop n).isEmpty || starts [41] (l.drop n)) = true ∧ 0 < ps.length := by
  intro N
  induction N with
  | zero =>
    intro cur l hl ps n h
    have e : l = [] := List.length_eq_zero_iff.1 (by omega)
    subst e
    rw [goF_stop (by rfl)] at h
    injection h with h1 h2
    subst h1 h2
    exact ⟨Nat.le_refl _, rfl, by simp⟩
  | succ N ih =>
    intro cur l hl ps n h
    by_cases h0 : (l.isEmpty || starts [41] l) = true
    · rw [goF_stop h0] at h
      injection h with h1 h2
      subst h1 h2
      exact ⟨Nat.zero_le _, by simpa using h0, by simp⟩
    · have h0' : (l.isEmpty || starts [41] l) = false := by simpa using h0
      by_cases h1 : starts [124] l = true
      · have hl1 := starts_len h1
        rw [goF_bar h1 h0'] at h
        obtain ⟨ps', n', e, rfl, rfl⟩ := pre_ok h
        obtain ⟨a, b, c⟩ := ih [] (l.drop 1) (by rw [List.length_drop]; omega) _ _ e
        rw [List.length_drop] at a
        rw [List.drop_drop] at b
        exact ⟨by omega, b, by simp⟩
      · have h1' : starts [124] l = false := by simpa using h1
        cases hp : pieceX Al l with
        | err c o => rw [goF_err h0' h1' hp] at h; cases h
        | ok t k =>
          have hk := pieceX_bd hp
          rw [goF_more h0' h1' hp] at h
          obtain ⟨ps', n', e, rfl, rfl⟩ := pre_ok h
          obtain ⟨a, b, c⟩ := ih (cur ++ [t]) (l.drop k) (by rw [List.length_drop]; omega) _ _ e
          rw [List.length_drop] at a
          rw [List.drop_drop] at b
          exact ⟨by omega, b, by simpa using c⟩
theorem altX_at {d : Nat} {l : List UInt8} {t : Tr} {n : Nat} (h : altX (d + 1) l = .ok t n) : n ≤ l.length ∧ ((l.drop n).isEmpty || starts [41] (l.drop n)) = true := by
  rw [altX_go] at h
  obtain ⟨ps, e, _⟩ := pr_ok h
  obtain ⟨a, b, _⟩ := goF_at _ l.length [] l (Nat.le_refl _) _ _ e
  exact ⟨a, b⟩
/-- What the loop of alternations comes to, from a place on. -/
def ARun (Al : List UInt8 → Pr) (s : ByteArray) (k k2 : Nat) (R : Pr) (acc cur : List Tr) : Prop :=
  R = ((goF Al cur (restL s k2)).pre acc (k2 - k)).pr
theorem ARun.start (d : Nat) (s : ByteArray) (k : Nat) : ARun (altX d) s k k (altX (d + 1) (restL s k)) [] [] := by
  unfold ARun; rw [altX_go, Nat.sub_self, Gl.pre_nil]
theorem ARun.stop {Al : List UInt8 → Pr} {s : ByteArray} {k k2 : Nat} {R : Pr} {acc cur : List Tr} (h : ARun Al s k k2 R acc cur) (h0 : (restL s k2).isEmpty = true ∨ starts [41] (restL s k2) = true) : R = .ok (altEnd (acc ++ [.mk 2 [] cur])) (k2 - k) := by
  rw [h, goF_stop (by simpa using h0)]; rfl
theorem ARun.bar {Al : List UInt8 → Pr} {s : ByteArray} {k k2 : Nat} {R : Pr} {acc cur : List Tr} (h : ARun Al s k k2 R acc cur) (hk : k ≤ k2) (h0 : starts [124] (restL s k2) = true) : ARun Al s k (k2 + 1) R (acc ++ [.mk 2 [] cur]) [] := by
  unfold ARun at h ⊢
  rw [h, goF_bar h0 (bar_not h0), Gl.pre_pre, rest_drop, show k2 - k + 1 = k2 + 1 - k by omega]
theorem ARun.more {Al : List UInt8 → Pr} {s : ByteArray} {k k2 : Nat} {R : Pr} {acc cur : List Tr} (h : ARun Al s k k2 R acc cur) (hk : k ≤ k2) (h0 : ((restL s k2).isEmpty || starts [41] (restL s k2)) = false) (h1 : starts [124] (restL s k2) = false) {t : Tr} {n : Nat} (hp : pieceX Al (restL s k2) = .ok t n) : ARun Al s k (k2 + n) R acc (cur ++ [t]) := by
  unfold ARun at h ⊢
  rw [h, goF_more h0 h1 hp, Gl.pre_pre, rest_drop, List.append_nil, show k2 - k + n = k2 + n - k by omega]
theorem ARun.err {Al : List UInt8 → Pr} {s : ByteArray} {k k2 : Nat} {R : Pr} {acc cur : List Tr} (h : ARun Al s k k2 R acc cur) (hk : k ≤ k2) (h0 : ((restL s k2).isEmpty || starts [41] (restL s k2)) = false) (h1 : starts [124] (restL s k2) = false) {c : Int} {o : Nat} (hp : pieceX Al (restL s k2) = .err c o) : R = .err c (k2 + o - k) := by
  rw [h, goF_err h0 h1 hp]
  simp only [Gl.pre, Gl.pr]
  rw [show k2 - k + o = k2 + o - k by omega]
end Go.Proofs.Ytjnhmcgjeljcmaa
namespace Go.Proofs.Ytjnhmcgjeljcmaa
open Go.RowKit

theorem own_same {w w' : World} {B e sz n : Nat} {v : Value} {xs : List Value} (h : w.ownsRow B e sz v n xs) (same : ∀ j, v.ownBlock = some j → w'.heap[j]? = w.heap[j]?) : w'.ownsRow B e sz v n xs := by
  obtain ⟨h1, h2 | ⟨g, cap, a, e1, hB, hh, r⟩⟩ := h
  · exact ⟨h1, .inl h2⟩
  · exact ⟨h1, .inr ⟨g, cap, a, e1, hB, by rw [same g (by rw [e1]; simp [Value.ownBlock])]; exact hh, r⟩⟩
theorem row_add {wr W w4 : World} {X Z Y : Nat → Prop} {d d3 : Nat} {acc : List Tr} {v : Value} {cells : List Value} {t : Tr} {v0 v1 v2 : Value}
    (hk : KidsAt wr X d acc cells) (hX : ∀ j, X j → Y j ∧ j < W.heap.size ∧ some j ≠ v.ownBlock ∧ W.heap[j]? = wr.heap[j]?)
    (ht : TreeAt W Z d3 t [v0, v1, v2]) (hZ : ∀ j, Z j → Y j ∧ j < W.heap.size ∧ some j ≠ v.ownBlock)
    (hgrow : W.grownBy w4 v.ownBlock) : KidsAt w4 Y (max d d3) (acc ++ [t]) (cells ++ [v0, v1, v2]) :=
  KidsAt.snoc (((hk.keep (w' := w4) fun j hj => by obtain ⟨_, h1, h2, h3⟩ := hX j hj; rw [hgrow.block j h1 h2, h3]).mono fun j hj => (hX j hj).1).deeper (Nat.le_max_left _ _))
    (((TreeAt.keep (w' := w4) (fun j hj => by obtain ⟨_, h1, h2⟩ := hZ j hj; exact hgrow.block j h1 h2) ht).mono fun j hj => (hZ j hj).1).deeper (Nat.le_max_right _ _))
/-- The blocks of what was read: none of both rows. -/
def YX (wr : World) (B : Nat) (vp vk : Value) (j : Nat) : Prop := B ≤ j ∧ j < wr.heap.size ∧ vp.ownBlock ≠ some j ∧ vk.ownBlock ≠ some j
structure TwoR (wr : World) (B d : Nat) (vp vk : Value) (acc cur : List Tr) (cp ck : List Value) : Prop where
  op : wr.ownsRow B 26 3 vp acc.length cp
  ok : wr.ownsRow B 26 3 vk cur.length ck
  ap : ∀ j, vp.ownBlock = some j → vk.ownBlock ≠ some j
  kp : KidsAt wr (YX wr B vp vk) d acc cp
  kk : KidsAt wr (YX wr B vp vk) d cur ck
section
variable {w wr W w4 : World} {B d d3 g cap2 H : Nat} {vp vk : Value} {acc cur : List Tr} {cp ck : List Value} {t : Tr} {v0 v1 v2 : Value}
theorem TwoR.to (h : TwoR wr B d vp vk acc cur cp ck) (hs : wr.heap.size ≤ W.heap.size) (same : ∀ j, B ≤ j → j < wr.heap.size → W.heap[j]? = wr.heap[j]?) : TwoR W B d vp vk acc cur cp ck :=
  ⟨own_same h.op fun j hj => same j (h.op.lt j hj).1 (h.op.lt j hj).2, own_same h.ok fun j hj => same j (h.ok.lt j hj).1 (h.ok.lt j hj).2, h.ap,
    (h.kp.keep (w' := W) fun j hj => same j hj.1 hj.2.1).mono fun j hj => ⟨hj.1, by have := hj.2.1; omega, hj.2.2⟩,
    (h.kk.keep (w' := W) fun j hj => same j hj.1 hj.2.1).mono fun j hj => ⟨hj.1, by have := hj.2.1; omega, hj.2.2⟩⟩
/-- A node of the second row. -/
theorem TwoR.node {ao : Option Addr} {n cap : Nat} (h : TwoR wr B d vp (.slice ao n cap) acc cur cp ck) (k : Int) : n = cur.length → TreeAt wr (fun j => B ≤ j ∧ j < wr.heap.size ∧ vp.ownBlock ≠ some j) (d + 1) (.mk k [] cur) [.int .i64 k, .slice none 0 0, .slice ao n cap] := by
  rintro rfl
  exact tree_node (k := k) h.ok (h.kk.mono fun j hj => ⟨hj.1, hj.2.1, hj.2.2.1⟩) (fun j hj => ⟨(h.ok.lt j hj).1, (h.ok.lt j hj).2, fun e => h.ap j e hj⟩)
theorem TwoR.more (h : TwoR wr B d vp vk acc cur cp ck) (hs : wr.heap.size ≤ W.heap.size) (same : ∀ j, B ≤ j → j < wr.heap.size → W.heap[j]? = wr.heap[j]?) (hB : B ≤ wr.heap.size)
    (ht : TreeAt W (fun j => wr.heap.size ≤ j ∧ j < W.heap.size) d3 t [v0, v1, v2]) (hgrow : W.grownBy w4 vk.ownBlock)
    (hown4 : w4.ownsRow B 26 3 (.slice (some ⟨g, 0, none⟩) (cur.length + 1) cap2) (cur.length + 1) (ck ++ [v0, v1, v2]))
    (hat : vk.ownBlock = some g ∨ g = H) (hH : W.heap.size ≤ H) : TwoR w4 B (max d d3) vp (.slice (some ⟨g, 0, none⟩) (cur.length + 1) cap2) acc (cur ++ [t]) cp (ck ++ [v0, v1, v2]) := by
  have hg4 := hgrow.size
  have ogn : ∀ j, j < W.heap.size → vk.ownBlock ≠ some j → g ≠ j := by
    rintro j hj hn rfl
    rcases hat with e | e
    · exact hn e
    · omega
  refine ⟨own_same h.op fun j hj => ?_, by rw [List.length_append]; exact hown4, fun j hj => ?_, ?_, ?_⟩
  · have hl := h.op.lt j hj
    rw [hgrow.block j (by omega) (fun e => h.ap j hj e.symm), same j hl.1 hl.2]
  · have hl := h.op.lt j hj
    simp only [Value.ownBlock, ne_eq, Option.some.injEq]
    exact ogn j (by omega) (fun e => h.ap j hj e)
  · refine ((h.kp.keep (w' := w4) fun j hj => ?_).mono fun j hj => ⟨hj.1, by have := hj.2.1; omega, hj.2.2.1, ?_⟩).deeper (Nat.le_max_left _ _)
    · rw [hgrow.block j (by have := hj.2.1; omega) (fun e => hj.2.2.2 e.symm), same j hj.1 hj.2.1]
    · simp only [Value.ownBlock, ne_eq, Option.some.injEq]
      exact ogn j (by have := hj.2.1; omega) hj.2.2.2
  · refine row_add h.kk (fun j hj => ⟨⟨hj.1, by have := hj.2.1; omega, hj.2.2.1, ?_⟩, by have := hj.2.1; omega, fun e => hj.2.2.2 e.symm, same j hj.1 hj.2.1⟩) ht (fun j hj => ⟨⟨by have := hj.1; omega, by have := hj.2; omega, fun e => by have := (h.op.lt j e).2; have := hj.1; omega, ?_⟩, hj.2, fun e => by have := (h.ok.lt j e.symm).2; have := hj.1; omega⟩) hgrow
    · simp only [Value.ownBlock, ne_eq, Option.some.injEq]
      exact ogn j (by have := hj.2.1; omega) hj.2.2.2
    · simp only [Value.ownBlock, ne_eq, Option.some.injEq]
      exact ogn j hj.2 (fun e => by have := (h.ok.lt j e).2; have := hj.1; omega)
/-- A node of the second row put onto the first one. -/
theorem TwoR.put {ao : Option Addr} {n cap : Nat} (h : TwoR wr B d vp (.slice ao n cap) acc cur cp ck) (hn : n = cur.length) (hs : wr.heap.size ≤ W.heap.size) (same : ∀ j, B ≤ j → j < wr.heap.size → W.heap[j]? = wr.heap[j]?)
    (hgrow : W.grownBy w4 vp.ownBlock) (hat : vp.ownBlock = some g ∨ g = H) (hH : W.heap.size ≤ H) :
    KidsAt w4 (fun j => B ≤ j ∧ j < w4.heap.size ∧ g ≠ j) (max d (d + 1)) (acc ++ [.mk 2 [] cur]) (cp ++ [.int .i64 2, .slice none 0 0, .slice ao n cap]) := by
  have hg4 := hgrow.size
  have ogn : ∀ j, j < W.heap.size → vp.ownBlock ≠ some j → g ≠ j := by
    rintro j hj hn rfl
    rcases hat with e | e
    · exact hn e
    · omega
  exact row_add h.kp (fun j hj => ⟨⟨hj.1, by have := hj.2.1; omega, ogn j (by have := hj.2.1; omega) hj.2.2.1⟩, by have := hj.2.1; omega, fun e => hj.2.2.1 e.symm, same j hj.1 hj.2.1⟩)
    ((h.node 2 hn).keep (w' := W) fun j hj => same j hj.1 hj.2.1) (fun j hj => ⟨⟨hj.1, by have := hj.2.1; omega, ogn j (by have := hj.2.1; omega) hj.2.2⟩, by have := hj.2.1; omega, fun e => hj.2.2 e.symm⟩) hgrow
theorem TwoR.bar {ao : Option Addr} {n cap : Nat} (h : TwoR wr B d vp (.slice ao n cap) acc cur cp ck) (hn : n = cur.length) (hs : wr.heap.size ≤ W.heap.size) (same : ∀ j, B ≤ j → j < wr.heap.size → W.heap[j]? = wr.heap[j]?) (hB : B ≤ wr.heap.size)
    (hgrow : W.grownBy w4 vp.ownBlock) (hat : vp.ownBlock = some g ∨ g = H) (hH : W.heap.size ≤ H)
    (hown4 : w4.ownsRow B 26 3 (.slice (some ⟨g, 0, none⟩) (acc.length + 1) cap2) (acc.length + 1) (cp ++ [.int .i64 2, .slice none 0 0, .slice ao n cap])) :
    TwoR (w4.alloc (.cells #[] 26)) B (max d (d + 1)) (.slice (some ⟨g, 0, none⟩) (acc.length + 1) cap2) (.slice (some ⟨w4.heap.size, 0, none⟩) 0 0) (acc ++ [.mk 2 [] cur]) [] (cp ++ [.int .i64 2, .slice none 0 0, .slice ao n cap]) [] := by
  have hg4 := hgrow.size
  have hgl := (hown4.lt g (by simp [Value.ownBlock])).2
  refine ⟨by rw [List.length_append]; exact hown4.alloc _, ⟨rfl, .inr ⟨w4.heap.size, 0, #[], rfl, by omega, heap_alloc_new w4 _, Nat.le_refl _, Nat.zero_le _, rfl, rfl⟩⟩, fun j hj => ?_, ?_, KidsAt.nil _ _ _⟩
  · simp only [Value.ownBlock, Option.some.injEq] at hj
    simp only [Value.ownBlock, ne_eq, Option.some.injEq]
    omega
  · refine ((h.put hn hs same hgrow hat hH).keep (w' := w4.alloc (.cells #[] 26)) fun j hj => Below.heap_alloc _ _ _ hj.2.1).mono fun j hj => ⟨hj.1, by have := hj.2.1; simp; omega, ?_, ?_⟩
    · simp only [Value.ownBlock, ne_eq, Option.some.injEq]; exact hj.2.2
    · simp only [Value.ownBlock, ne_eq, Option.some.injEq]; have := hj.2.1; omega
theorem TwoR.end3 {ao : Option Addr} {n cap : Nat} (h : TwoR wr B d vp (.slice ao n cap) acc cur cp ck) (hn : n = cur.length) (hs : wr.heap.size ≤ W.heap.size) (same : ∀ j, B ≤ j → j < wr.heap.size → W.heap[j]? = wr.heap[j]?)
    (hgrow : W.grownBy w4 vp.ownBlock) (hat : vp.ownBlock = some g ∨ g = H) (hH : W.heap.size ≤ H)
    (hown4 : w4.ownsRow B 26 3 (.slice (some ⟨g, 0, none⟩) (acc.length + 1) cap2) (acc.length + 1) (cp ++ [.int .i64 2, .slice none 0 0, .slice ao n cap])) :
    TreeAt w4 (fun j => B ≤ j ∧ j < w4.heap.size) (max d (d + 1) + 1) (.mk 3 [] (acc ++ [.mk 2 [] cur])) [.int .i64 3, .slice none 0 0, .slice (some ⟨g, 0, none⟩) (acc.length + 1) cap2] := by
  exact tree_node (k := 3) hown4 ((h.put hn hs same hgrow hat hH).mono fun j hj => ⟨hj.1, hj.2.1⟩) (fun j hj => hown4.lt j hj)
end
end Go.Proofs.Ytjnhmcgjeljcmaa
