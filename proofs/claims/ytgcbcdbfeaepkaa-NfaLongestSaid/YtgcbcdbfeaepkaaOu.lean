/- The reference's Table of any right tree. The law's trees: of, tree; rows of one kid and of two. What Longest and Find answer, said by trees. -/
import Derived.Test.YtgcbcdbfeaepkaaKyc
import Derived.Test.YtgcbcdbfeaepkaaKw
namespace Go.Proofs.Ytgcbcdbfeaepkaa
open Go.RowKit Go.Maps

theorem TreeAt.kidsT {w : World} {d n' : Nat} {A' : Option Addr} {kids : List Tr} (h4 : kids.length = n')
    (h5 : 0 < n' → ∃ b o, A' = some ⟨b, o, none⟩ ∧ b < w.heap.size ∧ ∀ i t, kids[i]? = some t → ∃ v0 v1 v2, w.cell? ⟨b, o + i * 3, none⟩ = some v0 ∧ w.cell? ⟨b, o + i * 3 + 1, none⟩ = some v1 ∧ w.cell? ⟨b, o + i * 3 + 2, none⟩ = some v2 ∧ TreeAt w (· < w.heap.size) d t [v0, v1, v2]) : KidsT w d n' A' kids := ⟨h4, h5⟩
theorem table_any : ∀ d, TabIH d
  | 0 => fun t v0 v1 v2 s w h _ _ => h.elim
  | d + 1 => fun t v0 v1 v2 s w h hg hs => by
    have ih := table_any d
    obtain ⟨k, rs, kids⟩ := t
    obtain ⟨A, n, c, A', n', c', e, hn, hn', hr, hl, hk⟩ := h
    obtain ⟨g1, g2, g3, g4⟩ := hg
    simp only [List.cons.injEq, and_true] at e
    obtain ⟨rfl, rfl, rfl⟩ := e
    have hkt : KidsT w d n' A' kids := ⟨hl, hk⟩
    rcases (by omega : k = 1 ∨ k = 2 ∨ k = 3 ∨ k = 4 ∨ k = 5 ∨ k = 6) with rfl | rfl | rfl | rfl | rfl | rfl
    · exact table1_any rs kids A A' n c n' c' s w hr hn hs d
    · exact table2_any ih rs kids A A' n c n' c' s w hkt hn'.1 g4 hs
    · exact table3_any ih rs kids A A' n c n' c' s w hkt hn'.1 g4 hs
    · match kids, g3 (by decide), g4, hkt with
      | t :: r, _, g4, hkt => exact table4_any ih rs t r A A' n c n' c' s w hkt hn'.1 (g4 t (List.mem_cons_self ..)) hs
    · match kids, g3 (by decide), g4, hkt with
      | t :: r, _, g4, hkt => exact table5_any ih rs t r A A' n c n' c' s w hkt hn'.1 (g4 t (List.mem_cons_self ..)) hs
    · match kids, g3 (by decide), g4, hkt with
      | t :: r, _, g4, hkt => exact table6_any ih rs t r A A' n c n' c' s w hkt hn'.1 (g4 t (List.mem_cons_self ..)) hs
end Go.Proofs.Ytgcbcdbfeaepkaa
namespace Go.Proofs.Ytgcbcdbfeaepkaa
open Go.RowKit Go.Maps

def OfPost (w : World) (lo hi : UInt8) (e : Ending) (w' : World) : Prop :=
  ∃ g, e = .returned (.agg #[.int .i64 1, .slice (some ⟨g, 0, none⟩) 1 1, .slice none 0 0]) ∧ TreeAt w' (· < w'.heap.size) 1 (.mk 1 [(lo, hi)] []) [.int .i64 1, .slice (some ⟨g, 0, none⟩) 1 1, .slice none 0 0] ∧ Below w.heap.size w w'
def NTreePost (w : World) (k : Int) (A : Option Addr) (n c : Nat) (e : Ending) (w' : World) : Prop :=
  e = .returned (.agg #[.int .i64 k, .slice none 0 0, .slice A n c]) ∧ Below w.heap.size w w'
theorem tree_below {w w' : World} {d : Nat} {t : Tr} {cs : List Value} (h : TreeAt w (· < w.heap.size) d t cs) (hb : Below w.heap.size w w') : TreeAt w' (· < w'.heap.size) d t cs :=
  (h.keep fun b hb' => hb.block b hb').mono fun _ hb' => Nat.lt_of_lt_of_le hb' hb.size
theorem one_kid {w : World} {d : Nat} {t : Tr} {v0 v1 v2 : Value} (k : Int) (ht : TreeAt w (· < w.heap.size) d t [v0, v1, v2]) :
    TreeAt (w.alloc (.cells #[v0, v1, v2] 25)) (· < (w.alloc (.cells #[v0, v1, v2] 25)).heap.size) (d + 1) (.mk k [] [t]) [.int .i64 k, .slice none 0 0, .slice (some ⟨w.heap.size, 0, none⟩) 1 1] := by
  refine ⟨none, 0, 0, _, 1, 1, rfl, Nat.zero_le _, ⟨by decide, Nat.le_refl _⟩, RgAt.nil _ _ _, rfl, fun _ => ⟨w.heap.size, 0, rfl, by simp, fun i t' hi => ?_⟩⟩
  obtain ⟨p0, p1, p2, _, _, _⟩ := blk3 (Blk.new w 25 #[v0, v1, v2])
  match i, hi with
  | 0, hi =>
    simp at hi; subst hi
    exact ⟨v0, v1, v2, p0, p1, p2, tree_below ht ((Below.refl _ w).alloc (Nat.le_refl _) _)⟩
theorem two_kids {w : World} {d : Nat} {t u : Tr} {v0 v1 v2 u0 u1 u2 : Value} (k : Int) (ht : TreeAt w (· < w.heap.size) d t [v0, v1, v2]) (hu : TreeAt w (· < w.heap.size) d u [u0, u1, u2]) :
    TreeAt (w.alloc (.cells #[v0, v1, v2, u0, u1, u2] 25)) (· < (w.alloc (.cells #[v0, v1, v2, u0, u1, u2] 25)).heap.size) (d + 1) (.mk k [] [t, u]) [.int .i64 k, .slice none 0 0, .slice (some ⟨w.heap.size, 0, none⟩) 2 2] := by
  refine ⟨none, 0, 0, _, 2, 2, rfl, Nat.zero_le _, ⟨by decide, Nat.le_refl _⟩, RgAt.nil _ _ _, rfl, fun _ => ⟨w.heap.size, 0, rfl, by simp, fun i t' hi => ?_⟩⟩
  have hB := Blk.new w 25 #[v0, v1, v2, u0, u1, u2]
  match i, hi with
  | 0, hi =>
    simp at hi; subst hi
    exact ⟨v0, v1, v2, hB.cell 0, hB.cell 1, hB.cell 2, tree_below ht ((Below.refl _ w).alloc (Nat.le_refl _) _)⟩
  | 1, hi =>
    simp at hi; subst hi
    exact ⟨u0, u1, u2, hB.cell 3, hB.cell 4, hB.cell 5, tree_below hu ((Below.refl _ w).alloc (Nat.le_refl _) _)⟩
set_option maxHeartbeats 1000000 in
set_option maxRecDepth 100000 in
theorem of_any (lo hi : UInt8) (w : World) : Calls Try.prog 49 #[.int .u8 (lo.toNat : Nat), .int .u8 (hi.toNat : Nat)] w (OfPost w lo hi) := by
  go_enter Try.func49, Try.ntmps49
  go_wp2
  have hB := Blk.new (w.alloc (.cells #[.int .i64 1, .slice (some ⟨w.heap.size + 1, 0, none⟩) 1 1, .slice none 0 0] 25)) 168 #[.int .u8 (lo.toNat : Nat), .int .u8 (hi.toNat : Nat)]
  have hs : (w.alloc (.cells #[.int .i64 1, .slice (some ⟨w.heap.size + 1, 0, none⟩) 1 1, .slice none 0 0] 25)).heap.size = w.heap.size + 1 := by simp
  rw [hs] at hB
  refine bodyPost_ret (v := .agg #[.int .i64 1, .slice (some ⟨w.heap.size + 1, 0, none⟩) 1 1, .slice none 0 0]) (by simp [results, Try.results49, go_sem]) rfl ⟨_, rfl, ⟨_, 1, 1, none, 0, 0, rfl, by decide, ⟨Nat.zero_le _, Nat.le_refl _⟩, ⟨rfl, fun _ => ⟨_, 0, rfl, hB.lt, fun i r hr => ?_⟩⟩, rfl, fun h => absurd h (by omega)⟩, ((Below.refl _ w).alloc (Nat.le_refl _) _).alloc (by simp) _⟩
  match i, hr with
  | 0, hr =>
    obtain rfl : (lo, hi) = r := by simpa using hr
    exact ⟨hB.cell 0, hB.cell 1⟩
set_option maxHeartbeats 1000000 in
set_option maxRecDepth 100000 in
theorem ntree_any (k : Int) (A : Option Addr) (n c : Nat) (w : World) : Calls Try.prog 48 #[.int .i64 k, .slice A n c] w (NTreePost w k A n c) := by
  go_enter Try.func48, Try.ntmps48
  go_wp2
  exact bodyPost_ret (v := .agg #[.int .i64 k, .slice none 0 0, .slice A n c]) (by simp [results, Try.results48, go_sem]) rfl ⟨rfl, (Below.refl _ w).alloc (Nat.le_refl _) _⟩
end Go.Proofs.Ytgcbcdbfeaepkaa
namespace Go.Proofs.Ytgcbcdbfeaepkaa
open Go.RowKit Go.Maps

def lonR (s : List UInt8) (d : Nat) (t : Tr) (frm r : Int) : Prop :=
  ((frm < 0 ∨ (s.length : Int) < frm) ∧ r = -1) ∨ ∃ f : Nat, frm = (f : Nat) ∧ f ≤ s.length ∧ ((r = -1 ∧ ∀ k, k ≤ s.length → ¬ Mt s d t f k) ∨ ∃ u : Nat, r = (u : Nat) ∧ u ≤ s.length ∧ Mt s d t f u ∧ ∀ k, u < k → k ≤ s.length → ¬ Mt s d t f k)
def findR (s : List UInt8) (d : Nat) (t : Tr) (a b : Int) (ok : Bool) : Prop :=
  (ok = false ∧ a = 0 ∧ b = 0 ∧ ∀ f k, f ≤ s.length → k ≤ s.length → ¬ Mt s d t f k) ∨
  (ok = true ∧ ∃ f u : Nat, a = (f : Nat) ∧ b = (u : Nat) ∧ f ≤ s.length ∧ u ≤ s.length ∧ Mt s d t f u ∧ (∀ k, u < k → k ≤ s.length → ¬ Mt s d t f k) ∧ ∀ g, g < f → ∀ k, k ≤ s.length → ¬ Mt s d t g k)
theorem lonR_one {s : List UInt8} {d : Nat} {t : Tr} {frm r r' : Int} (h : lonR s d t frm r) (h' : lonR s d t frm r') : r = r' := by
  rcases h with ⟨ho, e⟩ | ⟨f, ef, hf, h⟩
  · rcases h' with ⟨_, e'⟩ | ⟨f', ef', hf', -⟩
    · rw [e, e']
    · rcases ho with ho | ho <;> omega
  · rcases h' with ⟨ho', -⟩ | ⟨f', ef', hf', h'⟩
    · clear h; rcases ho' with ho | ho <;> omega
    · obtain rfl : f = f' := by clear h h'; omega
      rcases h with ⟨e, hn⟩ | ⟨u, e, hu, hm, hl⟩
      · rcases h' with ⟨e', _⟩ | ⟨u', _, hu', hm', _⟩
        · rw [e, e']
        · exact absurd hm' (hn u' hu')
      · rcases h' with ⟨_, hn'⟩ | ⟨u', e', hu', hm', hl'⟩
        · exact absurd hm (hn' u hu)
        · rcases Nat.lt_trichotomy u u' with hlt | rfl | hlt
          · exact absurd hm' (hl u' hlt hu')
          · rw [e, e']
          · exact absurd hm (hl' u hlt hu)
theorem findR_one {s : List UInt8} {d : Nat} {t : Tr} {a b a' b' : Int} {ok ok' : Bool} (h : findR s d t a b ok) (h' : findR s d t a' b' ok') : a = a' ∧ b = b' ∧ ok = ok' := by
  rcases h with ⟨e1, e2, e3, hn⟩ | ⟨e1, f, u, e2, e3, hf, hu, hm, hl, hg⟩
  · rcases h' with ⟨e1', e2', e3', hn'⟩ | ⟨e1', f', u', e2', e3', hf', hu', hm', hl', hg'⟩
    · rw [e1, e2, e3, e1', e2', e3']; exact ⟨rfl, rfl, rfl⟩
    · exact absurd hm' (hn f' u' hf' hu')
  · rcases h' with ⟨e1', e2', e3', hn'⟩ | ⟨e1', f', u', e2', e3', hf', hu', hm', hl', hg'⟩
    · exact absurd hm (hn' f u hf hu)
    · rcases Nat.lt_trichotomy f f' with hlt | rfl | hlt
      · exact absurd hm (hg' f hlt u hu)
      · rcases Nat.lt_trichotomy u u' with hlt | rfl | hlt
        · exact absurd hm' (hl u' hlt hu')
        · rw [e1, e2, e3, e1', e2', e3']; exact ⟨rfl, rfl, rfl⟩
        · exact absurd hm (hl' u hlt hu)
      · exact absurd hm' (hg f' hlt u' hu')
theorem lon_of {d : Nat} {t : Tr} (hg : GoodT d t) {s : List UInt8} {frm r : Int} (h : LongR (machT d t).2 s (machT d t).1 frm r) : lonR s d t frm r := by
  rcases h with h | ⟨f, e, hf, h⟩
  · exact .inl h
  · refine .inr ⟨f, e, hf, ?_⟩
    have key := fun k => mach_run (k := k) hg hf
    rcases h with ⟨e, hn⟩ | ⟨u, e, hu, hm, hl⟩
    · exact .inl ⟨e, fun k hk hm => hn k hk ((key k).2 hm)⟩
    · exact .inr ⟨u, e, hu, (key u).1 hm, fun k h1 h2 hm' => hl k h1 h2 ((key k).2 hm')⟩
theorem find_of {d : Nat} {t : Tr} (hg : GoodT d t) {s : List UInt8} {a b : Int} {ok : Bool} (h : FindR (machT d t).2 s (machT d t).1 a b ok) : findR s d t a b ok := by
  rcases h with ⟨e1, e2, e3, hn⟩ | ⟨e1, f, u, e2, e3, hfu, hu, hm, hl, hgg⟩
  · exact .inl ⟨e1, e2, e3, fun f k hf hk hm => hn f k hk ((mach_run hg hf).2 hm)⟩
  · have hf : f ≤ s.length := Nat.le_trans hfu hu
    exact .inr ⟨e1, f, u, e2, e3, hf, hu, (mach_run hg hf).1 hm, fun k h1 h2 hm' => hl k h1 h2 ((mach_run hg hf).2 hm'), fun g hgf k hk hm' => hgg g hgf k hk ((mach_run hg (by omega)).2 hm')⟩
theorem mach_small {d : Nat} {t : Tr} (hg : GoodT d t) (hn : nodesT d t ≤ 1000) : (machT d t).2.length ≤ nodesT d t + 1 ∧ (machT d t).2.length ≤ 100000 ∧ edgesM (machT d t).2 ≤ 100000 := by
  have h1 := ahead_len d t 0 [⟨fun _ => false, false, []⟩]
  have h2 := ahead_edges d t 0 [⟨fun _ => false, false, []⟩] hg
  have h3 : edgesM [(⟨fun _ => false, false, []⟩ : St)] = 0 := rfl
  have h4 : [(⟨fun _ => false, false, []⟩ : St)].length = 1 := rfl
  rw [h3] at h2
  rw [h4] at h1
  have e : machT d t = aheadT d t 0 [⟨fun _ => false, false, []⟩] := rfl
  rw [e]
  omega
/-- A machine of a tree. -/
def PAt (w : World) (X : Nat → Prop) (pp d : Nat) (t : Tr) : Prop := ∃ steps : Nat, Mach w X pp ((machT d t).1 : Nat) (steps : Nat) (machT d t).2
/-- A call's trace. -/
def Left (w : World) (X : Nat → Prop) (pp d : Nat) (t : Tr) (n : Nat) (w' : World) : Prop := (∃ steps : Nat, steps ≤ n * (nodesT d t + 1) ∧ Mach w' X pp ((machT d t).1 : Nat) (steps : Nat) (machT d t).2) ∧ Kept (fun j => j = pp) w w'
theorem Left.of {w w' : World} {X : Nat → Prop} {pp d : Nat} {t : Tr} {n : Nat} (hg : GoodT d t) (hn : nodesT d t ≤ 1000) (h : MLeft w X pp ((machT d t).1 : Nat) (machT d t).2 n w') : Left w X pp d t n w' := by
  obtain ⟨st, h1, h2, h3⟩ := h
  exact ⟨⟨st, Nat.le_trans h1 (Nat.mul_le_mul (Nat.le_refl _) (mach_small hg hn).1), h2⟩, h3⟩
def LonPost (w : World) (X : Nat → Prop) (pp d : Nat) (t : Tr) (s : List UInt8) (frm : Int) (e : Ending) (w' : World) : Prop := ∃ r, e = .returned (.int .i64 r) ∧ lonR s d t frm r ∧ Left w X pp d t s.length w'
def FinPost (w : World) (X : Nat → Prop) (pp d : Nat) (t : Tr) (s : List UInt8) (e : Ending) (w' : World) : Prop := ∃ a b ok, e = .returned (.tuple #[.int .i64 a, .int .i64 b, .bool ok]) ∧ findR s d t a b ok ∧ Left w X pp d t s.length w'
theorem lon_any {w : World} {X : Nat → Prop} {pp d : Nat} {t : Tr} (h : PAt w X pp d t) (hg : GoodT d t) (hn : nodesT d t ≤ 1000) (s : ByteArray) (hs : s.size ≤ 100000000) (frm : Int) : Calls Try.prog 18 #[.pointer (some ⟨pp, 0, none⟩), .string s, .int .i64 frm] w (LonPost w X pp d t s.data.toList frm) := by
  obtain ⟨st, hm⟩ := h
  obtain ⟨_, h2, h3⟩ := mach_small hg hn
  obtain ⟨o1, o2⟩ := mach_ok d t
  refine (longest_any hm o1 o2 s frm hs h3 h2).mono ?_
  rintro e w' ⟨r, rfl, hr, hl⟩
  exact ⟨r, rfl, lon_of hg hr, Left.of hg hn hl⟩
theorem fin_any {w : World} {X : Nat → Prop} {pp d : Nat} {t : Tr} (h : PAt w X pp d t) (hg : GoodT d t) (hn : nodesT d t ≤ 1000) (s : ByteArray) (hs : s.size ≤ 100000000) : Calls Try.prog 22 #[.pointer (some ⟨pp, 0, none⟩), .string s] w (FinPost w X pp d t s.data.toList) := by
  obtain ⟨st, hm⟩ := h
  obtain ⟨_, h2, h3⟩ := mach_small hg hn
  obtain ⟨o1, o2⟩ := mach_ok d t
  refine (find_any hm o1 o2 s hs h3 h2).mono ?_
  rintro e w' ⟨a, b, ok, rfl, hr, hl⟩
  exact ⟨a, b, ok, rfl, find_of hg hr, Left.of hg hn hl⟩
/-- Off the table. -/
theorem lonR_tab {s : List UInt8} {d : Nat} {t : Tr} {f u : Nat} (hf : f ≤ s.length) (hu : u ≤ s.length) (h : tabT s d t f u = true) (hl : ∀ k, k < s.length + 1 → u < k → tabT s d t f k = false) : lonR s d t (f : Nat) (u : Nat) :=
  .inr ⟨f, rfl, hf, .inr ⟨u, rfl, hu, (tab_Mt d t f u hf hu).1 h, fun k h1 h2 hm => by
    have := (tab_Mt d t f k hf h2).2 hm
    rw [hl k (by omega) h1] at this; cases this⟩⟩
theorem findR_tab {s : List UInt8} {d : Nat} {t : Tr} {f u : Nat} (hf : f ≤ s.length) (hu : u ≤ s.length) (h : tabT s d t f u = true) (hl : ∀ k, k < s.length + 1 → u < k → tabT s d t f k = false) (hg : ∀ g, g < f → ∀ k, k < s.length + 1 → tabT s d t g k = false) : findR s d t (f : Nat) (u : Nat) true :=
  .inr ⟨rfl, f, u, rfl, rfl, hf, hu, (tab_Mt d t f u hf hu).1 h, (fun k h1 h2 hm => by
    have := (tab_Mt d t f k hf h2).2 hm
    rw [hl k (by omega) h1] at this; cases this), fun g hgf k hk hm => by
    have := (tab_Mt d t g k (by omega) hk).2 hm
    rw [hg g hgf k (by omega)] at this; cases this⟩
theorem findR_none {s : List UInt8} {d : Nat} {t : Tr} (hn : ∀ f, f < s.length + 1 → ∀ k, k < s.length + 1 → tabT s d t f k = false) : findR s d t 0 0 false :=
  .inl ⟨rfl, rfl, rfl, fun f k hf hk hm => by
    have := (tab_Mt d t f k hf hk).2 hm
    rw [hn f (by omega) k (by omega)] at this; cases this⟩
def setT1 (c : UInt8) : Tr := .mk 1 [(c, c)] []
def aliveT : Tr := .mk 2 [] [.mk 4 [] [setT1 97], .mk 3 [] [.mk 2 [] [setT1 98], .mk 2 [] [setT1 98, setT1 99]]]
theorem alive_good : GoodT 4 aliveT := by simp [GoodT, aliveT, setT1]
theorem alive_nodes : nodesT 4 aliveT ≤ 1000 ∧ highT 4 aliveT ≤ 300 := by decide
theorem alive_lon : lonR [97, 97, 98, 99, 100] 4 aliveT 0 4 := lonR_tab (f := 0) (u := 4) (by decide) (by decide) (by decide +kernel) (by decide +kernel)
theorem alive_fin : findR [120, 97, 98, 99] 4 aliveT 1 4 true := findR_tab (f := 1) (u := 4) (by decide) (by decide) (by decide +kernel) (by decide +kernel) (by decide +kernel)
theorem alive_not : findR [97, 99] 4 aliveT 0 0 false := findR_none (by decide +kernel)
end Go.Proofs.Ytgcbcdbfeaepkaa
