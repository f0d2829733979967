/- What Longest and Find answer, said by trees. pat.Compile, Find, Kind, Text. -/
import Derived.Test.YtjnhmcgjeljcmaaOs
import Derived.Test.YtjnhmcgjeljcmaaFc
import Derived.Test.YtjnhmcgjeljcmaaXw
import Derived.Deep.RegionHeld3
namespace Go.Proofs.Ytjnhmcgjeljcmaa
open Go.RowKit Go.Maps

def lonR (s : List UInt8) (d : Nat) (t : Tr) (frm r : Int) : Prop :=
  ((frm < 0 ∨ (s.length : Int) < frm) ∧ r = -1) ∨ ∃ f : Nat, frm = (f : Nat) ∧ f ≤ s.length ∧ ((r = -1 ∧ ∀ k, k ≤ s.length → ¬ Mt s d t f k) ∨ ∃ u : Nat, r = (u : Nat) ∧ u ≤ s.length ∧ Mt s d t f u ∧ ∀ k, u < k → k ≤ s.length → ¬ Mt s d t f k)
def findR (s : List UInt8) (d : Nat) (t : Tr) (a b : Int) (ok : Bool) : Prop :=
  (ok = false ∧ a = 0 ∧ b = 0 ∧ ∀ f k, f ≤ s.length → k ≤ s.length → ¬ Mt s d t f k) ∨
  (ok = true ∧ ∃ f u : Nat, a = (f : Nat) ∧ b = (u : Nat) ∧ f ≤ s.length ∧ u ≤ s.length ∧ Mt s d t f u ∧ (∀ k, u < k → k ≤ s.length → ¬ Mt s d t f k) ∧ ∀ g, g < f → ∀ k, k ≤ s.length → ¬ Mt s d t g k)
theorem lonR_one {s : List UInt8} {d : Nat} {t : Tr} {frm r r' : Int} (h : lonR s d t frm r) (h' : lonR s d t frm r') : r = r' := by
  rcases h with ⟨ho, e⟩ | ⟨f, ef, hf, h⟩
  · rcases h' with ⟨_, e'⟩ | ⟨f', ef', hf', -⟩
    · rw [e, e']
    · rcases ho with ho | ho <;> omega
  · rcases h' with ⟨ho', -⟩ | ⟨f', ef', hf', h'⟩
    · clear h; rcases ho' with ho | ho <;> omega
    · obtain rfl : f = f' := by clear h h'; omega
      rcases h with ⟨e, hn⟩ | ⟨u, e, hu, hm, hl⟩
      · rcases h' with ⟨e', _⟩ | ⟨u', _, hu', hm', _⟩
        · rw [e, e']
        · exact absurd hm' (hn u' hu')
      · rcases h' with ⟨_, hn'⟩ | ⟨u', e', hu', hm', hl'⟩
        · exact absurd hm (hn' u hu)
        · rcases Nat.lt_trichotomy u u' with hlt | rfl | hlt
          · exact absurd hm' (hl u' hlt hu')
          · rw [e, e']
          · exact absurd hm (hl' u hlt hu)
theorem findR_one {s : List UInt8} {d : Nat} {t : Tr} {a b a' b' : Int} {ok ok' : Bool} (h : findR s d t a b ok) (h' : findR s d t a' b' ok') : a = a' ∧ b = b' ∧ ok = ok' := by
  rcases h with ⟨e1, e2, e3, hn⟩ | ⟨e1, f, u, e2, e3, hf, hu, hm, hl, hg⟩
  · rcases h' with ⟨e1', e2', e3', hn'⟩ | ⟨e1', f', u', e2', e3', hf', hu', hm', hl', hg'⟩
    · rw [e1, e2, e3, e1', e2', e3']; exact ⟨rfl, rfl, rfl⟩
    · exact absurd hm' (hn f' u' hf' hu')
  · rcases h' with ⟨e1', e2', e3', hn'⟩ | ⟨e1', f', u', e2', e3', hf', hu', hm', hl', hg'⟩
    · exact absurd hm (hn' f u hf hu)
    · rcases Nat.lt_trichotomy f f' with hlt | rfl | hlt
      · exact absurd hm (hg' f hlt u hu)
      · rcases Nat.lt_trichotomy u u' with hlt | rfl | hlt
        · exact absurd hm' (hl u' hlt hu')
        · rw [e1, e2, e3, e1', e2', e3']; exact ⟨rfl, rfl, rfl⟩
        · exact absurd hm (hl' u hlt hu)
      · exact absurd hm' (hg f' hlt u' hu')
theorem lon_of {d : Nat} {t : Tr} (hg : GoodT d t) {s : List UInt8} {frm r : Int} (h : LongR (machT d t).2 s (machT d t).1 frm r) : lonR s d t frm r := by
  rcases h with h | ⟨f, e, hf, h⟩
  · exact .inl h
  · refine .inr ⟨f, e, hf, ?_⟩
    have key := fun k => mach_run (k := k) hg hf
    rcases h with ⟨e, hn⟩ | ⟨u, e, hu, hm, hl⟩
    · exact .inl ⟨e, fun k hk hm => hn k hk ((key k).2 hm)⟩
    · exact .inr ⟨u, e, hu, (key u).1 hm, fun k h1 h2 hm' => hl k h1 h2 ((key k).2 hm')⟩
theorem find_of {d : Nat} {t : Tr} (hg : GoodT d t) {s : List UInt8} {a b : Int} {ok : Bool} (h : FindR (machT d t).2 s (machT d t).1 a b ok) : findR s d t a b ok := by
  rcases h with ⟨e1, e2, e3, hn⟩ | ⟨e1, f, u, e2, e3, hfu, hu, hm, hl, hgg⟩
  · exact .inl ⟨e1, e2, e3, fun f k hf hk hm => hn f k hk ((mach_run hg hf).2 hm)⟩
  · have hf : f ≤ s.length := Nat.le_trans hfu hu
    exact .inr ⟨e1, f, u, e2, e3, hf, hu, (mach_run hg hf).1 hm, fun k h1 h2 hm' => hl k h1 h2 ((mach_run hg hf).2 hm'), fun g hgf k hk hm' => hgg g hgf k hk ((mach_run hg (by omega)).2 hm')⟩
theorem mach_small {d : Nat} {t : Tr} (hg : GoodT d t) (hn : nodesT d t ≤ 1000) : (machT d t).2.length ≤ nodesT d t + 1 ∧ (machT d t).2.length ≤ 100000 ∧ edgesM (machT d t).2 ≤ 100000 := by
  have h1 := ahead_len d t 0 [⟨fun _ => false, false, []⟩]
  have h2 := ahead_edges d t 0 [⟨fun _ => false, false, []⟩] hg
  have h3 : edgesM [(⟨fun _ => false, false, []⟩ : St)] = 0 := rfl
  have h4 : [(⟨fun _ => false, false, []⟩ : St)].length = 1 := rfl
  rw [h3] at h2
  rw [h4] at h1
  have e : machT d t = aheadT d t 0 [⟨fun _ => false, false, []⟩] := rfl
  rw [e]
  omega
/-- A machine of a tree. -/
def PAt (w : World) (X : Nat → Prop) (pp d : Nat) (t : Tr) : Prop := ∃ steps : Nat, Mach w X pp ((machT d t).1 : Nat) (steps : Nat) (machT d t).2
/-- A call's trace. -/
def Left (w : World) (X : Nat → Prop) (pp d : Nat) (t : Tr) (n : Nat) (w' : World) : Prop := (∃ steps : Nat, steps ≤ n * (nodesT d t + 1) ∧ Mach w' X pp ((machT d t).1 : Nat) (steps : Nat) (machT d t).2) ∧ Kept (fun j => j = pp) w w'
theorem Left.of {w w' : World} {X : Nat → Prop} {pp d : Nat} {t : Tr} {n : Nat} (hg : GoodT d t) (hn : nodesT d t ≤ 1000) (h : MLeft w X pp ((machT d t).1 : Nat) (machT d t).2 n w') : Left w X pp d t n w' := by
  obtain ⟨st, h1, h2, h3⟩ := h
  exact ⟨⟨st, Nat.le_trans h1 (Nat.mul_le_mul (Nat.le_refl _) (mach_small hg hn).1), h2⟩, h3⟩
def LonPost (w : World) (X : Nat → Prop) (pp d : Nat) (t : Tr) (s : List UInt8) (frm : Int) (e : Ending) (w' : World) : Prop := ∃ r, e = .returned (.int .i64 r) ∧ lonR s d t frm r ∧ Left w X pp d t s.length w'
def FinPost (w : World) (X : Nat → Prop) (pp d : Nat) (t : Tr) (s : List UInt8) (e : Ending) (w' : World) : Prop := ∃ a b ok, e = .returned (.tuple #[.int .i64 a, .int .i64 b, .bool ok]) ∧ findR s d t a b ok ∧ Left w X pp d t s.length w'
theorem fin_any {w : World} {X : Nat → Prop} {pp d : Nat} {t : Tr} (h : PAt w X pp d t) (hg : GoodT d t) (hn : nodesT d t ≤ 1000) (s : ByteArray) (hs : s.size ≤ 100000000) : Calls Try.prog 44 #[.pointer (some ⟨pp, 0, none⟩), .string s] w (FinPost w X pp d t s.data.toList) := by
  obtain ⟨st, hm⟩ := h
  obtain ⟨_, h2, h3⟩ := mach_small hg hn
  obtain ⟨o1, o2⟩ := mach_ok d t
  refine (find_any hm o1 o2 s hs h3 h2).mono ?_
  rintro e w' ⟨a, b, ok, rfl, hr, hl⟩
  exact ⟨a, b, ok, rfl, find_of hg hr, Left.of hg hn hl⟩
/-- Off the table. -/
theorem lonR_tab {s : List UInt8} {d : Nat} {t : Tr} {f u : Nat} (hf : f ≤ s.length) (hu : u ≤ s.length) (h : tabT s d t f u = true) (hl : ∀ k, k < s.length + 1 → u < k → tabT s d t f k = false) : lonR s d t (f : Nat) (u : Nat) :=
  .inr ⟨f, rfl, hf, .inr ⟨u, rfl, hu, (tab_Mt d t f u hf hu).1 h, fun k h1 h2 hm => by
    have := (tab_Mt d t f k hf h2).2 hm
    rw [hl k (by omega) h1] at this; cases this⟩⟩
theorem findR_tab {s : List UInt8} {d : Nat} {t : Tr} {f u : Nat} (hf : f ≤ s.length) (hu : u ≤ s.length) (h : tabT s d t f u = true) (hl : ∀ k, k < s.length + 1 → u < k → tabT s d t f k = false) (hg : ∀ g, g < f → ∀ k, k < s.length + 1 → tabT s d t g k = false) : findR s d t (f : Nat) (u : Nat) true :=
  .inr ⟨rfl, f, u, rfl, rfl, hf, hu, (tab_Mt d t f u hf hu).1 h, (fun k h1 h2 hm => by
    have := (tab_Mt d t f k hf h2).2 hm
    rw [hl k (by omega) h1] at this; cases this), fun g hgf k hk hm => by
    have := (tab_Mt d t g k (by omega) hk).2 hm
    rw [hg g hgf k (by omega)] at this; cases this⟩
theorem findR_none {s : List UInt8} {d : Nat} {t : Tr} (hn : ∀ f, f < s.length + 1 → ∀ k, k < s.length + 1 → tabT s d t f k = false) : findR s d t 0 0 false :=
  .inl ⟨rfl, rfl, rfl, fun f k hf hk hm => by
    have := (tab_Mt d t f k hf hk).2 hm
    rw [hn f (by omega) k (by omega)] at this; cases this⟩
def setT1 (c : UInt8) : Tr := .mk 1 [(c, c)] []
def aliveT : Tr := .mk 2 [] [.mk 4 [] [setT1 97], .mk 3 [] [.mk 2 [] [setT1 98], .mk 2 [] [setT1 98, setT1 99]]]
theorem alive_good : GoodT 4 aliveT := by simp [GoodT, aliveT, setT1]
theorem alive_nodes : nodesT 4 aliveT ≤ 1000 ∧ highT 4 aliveT ≤ 300 := by decide
theorem alive_lon : lonR [97, 97, 98, 99, 100] 4 aliveT 0 4 := lonR_tab (f := 0) (u := 4) (by decide) (by decide) (by decide +kernel) (by decide +kernel)
theorem alive_fin : findR [120, 97, 98, 99] 4 aliveT 1 4 true := findR_tab (f := 1) (u := 4) (by decide) (by decide) (by decide +kernel) (by decide +kernel) (by decide +kernel)
theorem alive_not : findR [97, 99] 4 aliveT 0 0 false := findR_none (by decide +kernel)
end Go.Proofs.Ytjnhmcgjeljcmaa
namespace Go.Proofs.Ytjnhmcgjeljcmaa
open Go.RowKit Go.Maps

theorem tree_below {w w' : World} {d : Nat} {t : Tr} {cs : List Value} (h : TreeAt w (· < w.heap.size) d t cs) (hb : Below w.heap.size w w') : TreeAt w' (· < w'.heap.size) d t cs :=
  (h.keep fun b hb' => hb.block b hb').mono fun _ hb' => Nat.lt_of_lt_of_le hb' hb.size
def CompT (w : World) (d : Nat) (t : Tr) (e : Ending) (w' : World) : Prop := ∃ pp X, e = .returned (.tuple #[.pointer (some ⟨pp, 0, none⟩), .int .i64 0]) ∧ PAt w' X pp d t ∧ (∀ j, X j → w.heap.size ≤ j) ∧ Below w.heap.size w w' ∧ X pp
theorem comp_any {w : World} {d : Nat} {t : Tr} {v0 v1 v2 : Value} (h : TreeAt w (· < w.heap.size) d t [v0, v1, v2]) (hg : GoodT d t) (hn : nodesT d t ≤ 1000) (hh : highT d t ≤ 300) : Calls Try.prog 63 #[.agg #[v0, v1, v2]] w (CompT w d t) := by
  refine (compile_ok h hg hn hh).mono ?_
  rintro e w' ⟨pp, X, rfl, h1, h2, h3⟩
  exact ⟨pp, X, rfl, ⟨0, h1⟩, h2, h3, h1.at_⟩
theorem PAt.kept {w w' : World} {X Y : Nat → Prop} {pp d : Nat} {t : Tr} (h : PAt w X pp d t) (hk : Kept Y w w') (hd : ∀ j, X j → ¬ Y j) : PAt w' X pp d t := by
  obtain ⟨st, hm⟩ := h
  exact ⟨st, hm.keep fun b hb hl => hk.block b hl (hd b hb)⟩
theorem PAt.below {w w' : World} {X : Nat → Prop} {pp d : Nat} {t : Tr} (h : PAt w X pp d t) (hb : Below w.heap.size w w') : PAt w' X pp d t := by
  obtain ⟨st, hm⟩ := h
  exact ⟨st, hm.below hb⟩
theorem Left.pat {w w' : World} {X : Nat → Prop} {pp d n : Nat} {t : Tr} (h : Left w X pp d t n w') : PAt w' X pp d t := by obtain ⟨⟨st, _, hm⟩, _⟩ := h; exact ⟨st, hm⟩
theorem kept_past {w w1 w2 : World} {pp : Nat} (hb : Below w.heap.size w w1) (hk : Kept (fun j => j = pp) w1 w2) (hp : w.heap.size ≤ pp) : Below w.heap.size w w2 :=
  hb.trans (hk.below hb.size fun j hj => by subst hj; exact hp)
/-- The parser of a kind. -/
def parF (kind : Int) : FuncId := if kind = 1 then 61 else if kind = 2 then 62 else 16
theorem enter_par (kind : Int) (args : Array Value) (W : World) : (callFunc (parF kind) args).run Try.prog W = .ok (.enter (parF kind) args) W := by
  unfold parF
  split
  · kernel_rfl
  · split <;> kernel_rfl
theorem par_any {kind : Int} (h1 : 1 ≤ kind) (h3 : kind ≤ 3) (s : ByteArray) (w : World) : Calls Try.prog (parF kind) #[.string s] w (TreePost w (patP kind s.data.toList)) := by
  rcases (by omega : kind = 1 ∨ kind = 2 ∨ kind = 3) with rfl | rfl | rfl
  · exact exact_any s w
  · exact parse_any s w
  · exact xparse_any s w
/-- A pattern: its kind, its text, its machine. -/
structure PatAt (w : World) (X : Nat → Prop) (p : Nat) (kind : Int) (s : ByteArray) (pp d : Nat) (t : Tr) : Prop where
  top : Blk w p 105 #[.int .i64 kind, .string s, .pointer (some ⟨pp, 0, none⟩)]
  mach : PAt w X pp d t
  good : GoodT d t
  small : nodesT d t ≤ 1000
  in_ : X pp
  apart : ¬ X p
def MachPost (w : World) (kind : Int) (s : ByteArray) (e : Ending) (w' : World) : Prop :=
  ((patP kind s.data.toList).2.1 = 0 ∧ ∃ pp X d, e = .returned (.tuple #[.pointer (some ⟨pp, 0, none⟩), .int .i64 0, .int .i64 0]) ∧ PAt w' X pp d (patP kind s.data.toList).1 ∧ GoodT d (patP kind s.data.toList).1 ∧ nodesT d (patP kind s.data.toList).1 ≤ 1000 ∧ (∀ j, X j → w.heap.size ≤ j ∧ j < w'.heap.size) ∧ X pp ∧ Below w.heap.size w w') ∨
  ((patP kind s.data.toList).2.1 ≠ 0 ∧ e = .returned (.tuple #[.pointer none, .int .i64 (patP kind s.data.toList).2.1, .int .i64 ((patP kind s.data.toList).2.2 : Nat)]) ∧ Below w.heap.size w w')
set_option maxHeartbeats 1000000 in
set_option maxRecDepth 100000 in
theorem machine_any {kind : Int} (h1 : 1 ≤ kind) (h3 : kind ≤ 3) (s : ByteArray) (w : World) : Calls Try.prog 40 #[.string s, .func (.func (parF kind)) #[] #[]] w (MachPost w kind s) := by
  have C := Lib.hid (par_any h1 h3 s w)
  have HF := Lib.hid (fun h => fit_pat (kind := kind) (l := s.data.toList) h)
  have HE := fun args W => enter_par kind args W
  generalize parF kind = fl at C HE ⊢
  generalize hP : patP kind s.data.toList = P at C HF
  have HP := Lib.hid hP
  clear hP
  obtain ⟨t, c, o⟩ := P
  go_enter Try.func40, Try.ntmps40
  go_wp2_with fail
  refine C.out.mono ?_
  rintro e w1 ⟨d, k, A, n, cp, A', n', cp', rfl, ht, hb⟩
  have HT := Lib.hid ht
  have HB := Lib.hid hb
  clear ht hb C
  by_cases hc : c = 0
  · subst hc
    obtain ⟨D, g1, g2, g3⟩ := HF.out rfl
    obtain ⟨j1, j2, j3⟩ := good_add D t g1 d
    rw [Nat.add_comm D d] at j1 j2 j3
    have tr : TreeAt (w1.alloc (.cells #[.int .i64 k, .slice A n cp, .slice A' n' cp'] 26)) (· < (w1.alloc (.cells #[.int .i64 k, .slice A n cp, .slice A' n' cp'] 26)).heap.size) (d + D) t [.int .i64 k, .slice A n cp, .slice A' n' cp'] :=
      tree_below ((HT.out.mono fun b hb => hb.2).deeper (Nat.le_add_right d D)) ((Below.refl _ w1).alloc (Nat.le_refl _) _)
    have CC := Lib.hid (comp_any tr j1 (by omega) (by omega))
    have HG := Lib.hid j1
    have HN := Lib.hid (show nodesT (d + D) t ≤ 1000 by omega)
    clear HF HT tr j1 j2 j3 g1 g2 g3
    have HBA := Lib.hid (HB.out.alloc HB.out.size (.cells #[.int .i64 k, .slice A n cp, .slice A' n' cp'] 26))
    go_wp2_with fail
    refine CC.out.mono ?_
    rintro e w2 ⟨pp, X, rfl, hp, hx, hb2, hxp⟩
    have HR := Lib.hid (show MachPost w kind s (.returned (.tuple #[.pointer (some ⟨pp, 0, none⟩), .int .i64 0, .int .i64 0])) w2 from by
      refine .inl ⟨by rw [HP.out], pp, X, d + D, rfl, by rw [HP.out]; exact hp, by rw [HP.out]; exact HG.out, by rw [HP.out]; exact HN.out, fun j hj => ⟨Nat.le_trans HBA.out.size (hx j hj), ?_⟩, hxp, HBA.out.trans (hb2.mono HBA.out.size)⟩
      obtain ⟨st, hm⟩ := hp
      exact hm.old hj)
    clear CC hp hx hb2 hxp
    go_wp2
    go_ret3
    exact HR.out
  · have hc' : (c != 0) = true := by simpa using hc
    have HR := Lib.hid (show ∀ W, Below w.heap.size w W → MachPost w kind s (.returned (.tuple #[.pointer none, .int .i64 c, .int .i64 (o : Nat)])) W from fun W hW => .inr ⟨by rw [HP.out]; exact hc, by rw [HP.out], hW⟩)
    have HBA := Lib.hid (HB.out.alloc HB.out.size (.cells #[.int .i64 k, .slice A n cp, .slice A' n' cp'] 26))
    clear hc HF HT
    go_wp2
    go_ret3
    exact HR.out _ HBA.out
def CompPost (w : World) (kind : Int) (s : ByteArray) (e : Ending) (w' : World) : Prop :=
  ((patP kind s.data.toList).2.1 = 0 ∧ ∃ p X pp d, e = .returned (.tuple #[.pointer (some ⟨p, 0, none⟩), .int .i64 0, .int .i64 0]) ∧ PatAt w' X p kind s pp d (patP kind s.data.toList).1 ∧ (∀ j, X j ∨ j = p → w.heap.size ≤ j) ∧ Below w.heap.size w w') ∨
  ((patP kind s.data.toList).2.1 ≠ 0 ∧ e = .returned (.tuple #[.pointer none, .int .i64 (patP kind s.data.toList).2.1, .int .i64 ((patP kind s.data.toList).2.2 : Nat)]) ∧ Below w.heap.size w w')
set_option maxRecDepth 100000 in
theorem parser_in {kind : Int} (h1 : 1 ≤ kind) (h3 : kind ≤ 3) (w : World) : Calls Try.prog 39 #[.int .i64 kind] w fun e w' => e = .returned (.func (.func (parF kind)) #[] #[]) ∧ w' = w := by
  rcases (by omega : kind = 1 ∨ kind = 2 ∨ kind = 3) with rfl | rfl | rfl
  all_goals
    go_enter Try.func39, Try.ntmps39
    go_wp2
    go_ret
    exact ⟨rfl, rfl⟩
set_option maxRecDepth 100000 in
theorem parser_out {kind : Int} (h : kind < 1 ∨ 3 < kind) (w : World) : Calls Try.prog 39 #[.int .i64 kind] w fun e w' => e = .returned .nilFunc ∧ w' = w := by
  have e1 : ¬ kind = 1 := by omega
  have e2 : ¬ kind = 2 := by omega
  have e3 : ¬ kind = 3 := by omega
  go_enter Try.func39, Try.ntmps39
  go_wp2
  go_ret
  exact ⟨rfl, rfl⟩
theorem eq_fn (fl : FuncId) (W : World) : (binOp .eql 99 (.func (.func fl) #[] #[]) .nilFunc).run Try.prog W = .ok (.bool false) W := by kernel_rfl
theorem eq_nilfn (W : World) : (binOp .eql 99 .nilFunc .nilFunc).run Try.prog W = .ok (.bool true) W := by kernel_rfl
set_option maxHeartbeats 1000000 in
set_option maxRecDepth 100000 in
theorem pcomp_any (kind : Int) (s : ByteArray) (w : World) : Calls Try.prog 20 #[.int .i64 kind, .string s] w (CompPost w kind s) := by
  by_cases hk : kind < 1 ∨ 3 < kind
  · have hp : patP kind s.data.toList = (zeroT, 1, 0) := by unfold patP; rw [if_neg (by omega), if_neg (by omega), if_neg (by omega)]
    have HR := Lib.hid (show CompPost w kind s (.returned (.tuple #[.pointer none, .int .i64 1, .int .i64 0])) w from .inr ⟨by rw [hp]; decide, by rw [hp]; rfl, Below.refl _ _⟩)
    have C := Lib.hid (parser_out hk w)
    have HQ := fun W => eq_nilfn W
    clear hp hk
    go_enter Try.func20, Try.ntmps20
    go_wp2_with fail
    refine C.out.mono ?_
    rintro e w1 ⟨rfl, rfl⟩
    go_wp2
    go_ret3
    exact HR.out
  · have C := Lib.hid (parser_in (kind := kind) (by omega) (by omega) w)
    have M := Lib.hid (machine_any (kind := kind) (by omega) (by omega) s w)
    generalize parF kind = fl at C M
    have HQ := fun W => eq_fn fl W
    clear hk
    go_enter Try.func20, Try.ntmps20
    go_wp2_with fail
    refine C.out.mono ?_
    rintro e w1 ⟨rfl, rfl⟩
    go_wp2_with fail
    refine M.out.mono ?_
    rintro e w2 (⟨h0, pp, X, d, rfl, hp, hg, hn, hx, hxp, hb⟩ | ⟨h0, rfl, hb⟩)
    · have hbk := Blk.new w2 105 #[.int .i64 kind, .string s, .pointer (some ⟨pp, 0, none⟩)]
      have b2 := (Below.refl w2.heap.size w2).alloc (Nat.le_refl _) (.cells #[.int .i64 kind, .string s, .pointer (some ⟨pp, 0, none⟩)] 105)
      have HR := Lib.hid (show CompPost w1 kind s (.returned (.tuple #[.pointer (some ⟨w2.heap.size, 0, none⟩), .int .i64 0, .int .i64 0])) (w2.alloc (.cells #[.int .i64 kind, .string s, .pointer (some ⟨pp, 0, none⟩)] 105)) from
        .inl ⟨h0, w2.heap.size, X, pp, d, rfl, ⟨hbk, hp.below b2, hg, hn, hxp, fun h => Nat.lt_irrefl _ (hx _ h).2⟩, fun j hj => by
          rcases hj with hj | rfl
          · exact (hx j hj).1
          · exact hb.size, hb.trans (b2.mono hb.size)⟩)
      clear h0 hp hg hn hx hxp hb hbk b2
      go_wp2
      go_ret3
      exact HR.out
    · have HR := Lib.hid (show CompPost w1 kind s (.returned (.tuple #[.pointer none, .int .i64 (patP kind s.data.toList).2.1, .int .i64 ((patP kind s.data.toList).2.2 : Nat)])) w2 from .inr ⟨h0, rfl, hb⟩)
      have hc' : ((patP kind s.data.toList).2.1 != 0) = true := by simpa using h0
      clear h0 hb
      generalize (patP kind s.data.toList).2.1 = c at *
      generalize (patP kind s.data.toList).2.2 = o at *
      go_wp2
      go_ret3
      exact HR.out
section
variable {w w' : World} {X : Nat → Prop} {p pp d : Nat} {kind : Int} {s : ByteArray} {t : Tr}
theorem PatAt.below (h : PatAt w X p kind s pp d t) (hb : Below w.heap.size w w') : PatAt w' X p kind s pp d t := ⟨h.top.below hb h.top.lt, h.mach.below hb, h.good, h.small, h.in_, h.apart⟩
theorem PatAt.kept {Y : Nat → Prop} (h : PatAt w X p kind s pp d t) (hk : Kept Y w w') (hx : ∀ j, X j ∨ j = p → ¬ Y j) : PatAt w' X p kind s pp d t :=
  ⟨(hk.block p h.top.lt (hx p (.inr rfl))).trans h.top, h.mach.kept hk fun j hj => hx j (.inl hj), h.good, h.small, h.in_, h.apart⟩
def PFindPost (w : World) (X : Nat → Prop) (p : Nat) (kind : Int) (s : ByteArray) (pp d : Nat) (t : Tr) (bs : List UInt8) (e : Ending) (w' : World) : Prop :=
  ∃ a b ok, e = .returned (.tuple #[.int .i64 a, .int .i64 b, .bool ok]) ∧ findR bs d t a b ok ∧ PatAt w' X p kind s pp d t ∧ Kept (fun j => j = pp) w w'
set_option maxHeartbeats 1000000 in
set_option maxRecDepth 100000 in
theorem pfind_any {A : Option Addr} {m c : Nat} {bs : List UInt8} (h : PatAt w X p kind s pp d t) (hs : BytesAt w A m bs) (hA : 0 < m → ∀ b o, A = some ⟨b, o, none⟩ → ¬ X b) (hm : m ≤ 100000000) : Calls Try.prog 24 #[.pointer (some ⟨p, 0, none⟩), .slice A m c] w (PFindPost w X p kind s pp d t bs) := by
  have H := Lib.hid h
  obtain ⟨k0, k1, k2, -, -, -⟩ := blk3 h.top
  have hcv := conv_str hs c
  have hcv1 := conv_str (w := w.drew) (show BytesAt w.drew A m bs from hs) c
  have hdrew : ∀ n, PAt (w.drewN n) X pp d t := fun n => h.mach.kept ((Kept.refl (fun _ => False) w).drewN n) (fun _ _ h => h)
  have F := fun n => Lib.hid (fin_any (hdrew n) h.good h.small ⟨bs.toArray⟩ (by have := hs.1; simp [ByteArray.size]; omega))
  have hpp : p ≠ pp := fun e => h.apart (e ▸ h.in_)
  have HS := Lib.hid (fun w2 (hk : Kept (fun j => j = pp) (w.drewN 1) w2) => conv_str (BytesAt.keep (w' := w2) (show BytesAt (w.drewN 1) A m bs from hs) (fun hm b o e hl => hk.block b hl (fun hb => hA hm b o e (hb ▸ h.in_))) hk.size) c)
  have HB := Lib.hid (fun (w2 : World) (hk : Kept (fun j => j = pp) (w.drewN 1) w2) => show Kept (fun j => j = pp) w w2 from ((Kept.refl (fun j => j = pp) w).drewN 1).trans hk (fun j hj => .inl hj))
  clear h hs
  go_enter Try.func24, Try.ntmps24
  go_wp2_with fail
  go_region_held3 (fun W => W.cell? ⟨p, 2, none⟩ = some (.pointer (some ⟨pp, 0, none⟩)) ∧ (convert 51 9 (.slice A m c)).run Try.prog W = .ok (.string ⟨bs.toArray⟩) W) (go_keep) (first | (go_at_call 44; refine (F 1).out.mono ?_; rintro e w2 ⟨a, b, ok, rfl, hf, hl⟩; have q2 : w2.cell? ⟨p, 2, none⟩ = some (.pointer (some ⟨pp, 0, none⟩)) := (show Blk w2 p 105 #[.int .i64 kind, .string s, .pointer (some ⟨pp, 0, none⟩)] from (hl.2.block p H.out.top.lt hpp).trans H.out.top).cell 2; have q3 := HS.out w2 hl.2))
  all_goals
    have HR := Lib.hid (show PFindPost w X p kind s pp d t bs (.returned (.tuple #[.int .i64 a, .int .i64 b, .bool ok])) w2 from
      ⟨a, b, ok, rfl, by simpa using hf, ⟨(hl.2.block p H.out.top.lt hpp).trans H.out.top, hl.pat, H.out.good, H.out.small, H.out.in_, H.out.apart⟩, HB.out w2 hl.2⟩)
    clear hf hl q2 q3
    go_wp2
    go_ret3
    exact HR.out
theorem pkind_any (h : PatAt w X p kind s pp d t) : Calls Try.prog 22 #[.pointer (some ⟨p, 0, none⟩)] w fun e w' => e = .returned (.int .i64 kind) ∧ w' = w := by
  obtain ⟨k0, k1, k2, -, -, -⟩ := blk3 h.top
  clear h
  go_enter Try.func22, Try.ntmps22
  go_wp2
  go_ret
  exact ⟨rfl, rfl⟩
theorem ptext_any (h : PatAt w X p kind s pp d t) : Calls Try.prog 23 #[.pointer (some ⟨p, 0, none⟩)] w fun e w' => e = .returned (.string s) ∧ w' = w := by
  obtain ⟨k0, k1, k2, -, -, -⟩ := blk3 h.top
  clear h
  go_enter Try.func23, Try.ntmps23
  go_wp2
  go_ret
  exact ⟨rfl, rfl⟩
end
end Go.Proofs.Ytjnhmcgjeljcmaa
