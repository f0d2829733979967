/- Waits in plain words; clauses in memory. The first clause of a kind; how a wait ends; a buffer that is full; what one clause finds. A session, a buffer and clauses side by side; what one clause finds. -/
import Derived.Test.YtgcbcdbfeaepkaaNa
import Derived.Test.YtgcbcdbfeaepkaaNd
import Derived.Test.YtgcbcdbfeaepkaaFb
import Derived.Test.YtgcbcdbfeaepkaaFh
import Derived.Deep.RegionHeld3
namespace Go.Proofs.Ytgcbcdbfeaepkaa
open Go.RowKit Go.Maps

/-- A clause: its kind, and what it finds in bytes. -/
structure Cl where
  kind : Int
  find : List UInt8 → Option (Nat × Nat)
def foundT : List Cl → Nat → List UInt8 → Option (Nat × Nat × Nat)
  | [], _, _ => none
  | c :: r, i, bs => match c.find bs with
    | some (a, b) => some (i, a, b)
    | none => foundT r (i + 1) bs
def firstK (kind : Int) : List Cl → Int → Int
  | [], _ => -1
  | c :: r, i => if c.kind = kind then i else firstK kind r (i + 1)
theorem firstK_hit {kind : Int} {cs : List Cl} {j : Nat} {c : Cl} (hc : cs[j]? = some c) (hd : c.kind = kind) (i : Int) : firstK kind (cs.drop j) i = i := by
  obtain ⟨hl, hg⟩ := List.getElem?_eq_some_iff.1 hc
  rw [List.drop_eq_getElem_cons hl, hg]
  simp [firstK, hd]
theorem firstK_miss {kind : Int} {cs : List Cl} {j : Nat} {c : Cl} (hc : cs[j]? = some c) (hd : ¬ c.kind = kind) (i : Int) : firstK kind (cs.drop j) i = firstK kind (cs.drop (j + 1)) (i + 1) := by
  obtain ⟨hl, hg⟩ := List.getElem?_eq_some_iff.1 hc
  rw [List.drop_eq_getElem_cons hl, hg]
  simp [firstK, hd]
theorem firstK_bd (kind : Int) : ∀ (cs : List Cl) (i : Nat), firstK kind cs (i : Nat) = -1 ∨ ((i : Nat) : Int) ≤ firstK kind cs (i : Nat) ∧ firstK kind cs (i : Nat) < ((i + cs.length : Nat) : Int)
  | [], _ => .inl rfl
  | c :: r, i => by
    unfold firstK
    by_cases h : c.kind = kind
    · rw [if_pos h]; exact .inr ⟨Int.le_refl _, by simp; omega⟩
    · rw [if_neg h]
      rcases firstK_bd kind r (i + 1) with h1 | ⟨h1, h2⟩
      · exact .inl h1
      · refine .inr ⟨?_, ?_⟩
        · have : ((i + 1 : Nat) : Int) = (i : Int) + 1 := by omega
          rw [this] at h1
          omega
        · have : ((i + 1 : Nat) : Int) = (i : Int) + 1 := by omega
          rw [this] at h2
          simp only [List.length_cons]
          omega
theorem foundT_hit {cs : List Cl} {j : Nat} {c : Cl} {bs : List UInt8} {a b : Nat} (hc : cs[j]? = some c) (hd : c.find bs = some (a, b)) : foundT (cs.drop j) j bs = some (j, a, b) := by
  obtain ⟨hl, hg⟩ := List.getElem?_eq_some_iff.1 hc
  rw [List.drop_eq_getElem_cons hl, hg]
  simp [foundT, hd]
theorem foundT_miss {cs : List Cl} {j : Nat} {c : Cl} {bs : List UInt8} (hc : cs[j]? = some c) (hd : c.find bs = none) : foundT (cs.drop j) j bs = foundT (cs.drop (j + 1)) (j + 1) bs := by
  obtain ⟨hl, hg⟩ := List.getElem?_eq_some_iff.1 hc
  rw [List.drop_eq_getElem_cons hl, hg]
  simp [foundT, hd]
/-- How a wait ends. -/
structure Out where
  kind : Int
  clause : Int
  text : List UInt8
  gone : Nat
def endedT (cs : List Cl) (what : Int) (spent : Bool) (gone : Nat) : Out :=
  if what = 2 then ⟨3, firstK 5 cs 0, [], gone⟩ else if what = 3 then ⟨4, firstK 6 cs 0, [], gone⟩ else if spent = true then ⟨6, -1, [], gone⟩ else ⟨5, firstK 4 cs 0, [], gone⟩
def fullT (cs : List Cl) (most : Nat) (come : Bool) (bs : List UInt8) : Bool := come && decide (0 ≤ firstK 7 cs 0) && decide (bs.length = most)
/-- A wait, in so many rounds at most. -/
def waitT (cs : List Cl) (most : Nat) (u bd : Int) : Nat → Bool → Nat → Ls → List UInt8 → Out × Ls × List UInt8
  | 0, _, gone, s, bs => (⟨0, 0, [], gone⟩, s, bs)
  | n + 1, come, gone, s, bs => match foundT cs 0 bs with
    | some (i, a, b) => (⟨1, (i : Nat), (bs.take b).drop a, gone⟩, s, bs.drop b)
    | none => if fullT cs most come bs = true then (⟨2, firstK 7 cs 0, bs, gone⟩, s, []) else
      if (nextS s (min u bd)).1 = 1 then waitT cs most u bd n true (gone + goneBy bs (nextS s (min u bd)).2.1 most) (nextS s (min u bd)).2.2 ((bs ++ (nextS s (min u bd)).2.1).drop (goneBy bs (nextS s (min u bd)).2.1 most))
      else (endedT cs (nextS s (min u bd)).1 (decide (bd < u)) gone, (nextS s (min u bd)).2.2, bs)
/-- What a wait takes from the board is no more than there may be: its ticks and bytes, and it ends within these rounds. -/
def waitOk (cs : List Cl) (most : Nat) (u bd : Int) : Nat → Bool → Nat → Ls → List UInt8 → Prop
  | 0, _, _, _, _ => False
  | n + 1, come, gone, s, bs => match foundT cs 0 bs with
    | some _ => True
    | none => fullT cs most come bs = true ∨ (0 ≤ s.last ∧ s.last ≤ 4611686018427387904 ∧ gone ≤ 100000000000 ∧
      ((nextS s (min u bd)).1 = 1 → (nextS s (min u bd)).2.1.length ≤ 1000000000 ∧ waitOk cs most u bd n true (gone + goneBy bs (nextS s (min u bd)).2.1 most) (nextS s (min u bd)).2.2 ((bs ++ (nextS s (min u bd)).2.1).drop (goneBy bs (nextS s (min u bd)).2.1 most))))
/-- What a clause's two cells are, its pattern's blocks among Z. -/
def ClOk (w : World) (Z : Nat → Prop) (c : Cl) (v : Value) : Prop :=
  (1 ≤ c.kind ∧ c.kind ≤ 3 ∧ ∃ p X pp d t txt, v = .pointer (some ⟨p, 0, none⟩) ∧ PatAt w X p c.kind txt pp d t ∧ (∀ j, X j ∨ j = p → Z j) ∧
    ∀ bs a b ok, findR bs d t a b ok → (ok = false ∧ c.find bs = none) ∨ (ok = true ∧ ∃ f u : Nat, a = (f : Nat) ∧ b = (u : Nat) ∧ c.find bs = some (f, u) ∧ f ≤ u ∧ u ≤ bs.length)) ∨
  ((c.kind < 1 ∨ 3 < c.kind) ∧ (∀ bs, c.find bs = none) ∧ v = .pointer none)
structure ClsAt (w : World) (A : Option Addr) (n : Nat) (cs : List Cl) (Z : Nat → Nat → Prop) : Prop where
  len : cs.length = n
  max : n ≤ 1000000000
  cells : 0 < n → ∃ b o, A = some ⟨b, o, none⟩ ∧ b < w.heap.size ∧ ∀ i c, cs[i]? = some c → w.cell? ⟨b, o + i * 2, none⟩ = some (.int .i64 c.kind) ∧ ∃ v, w.cell? ⟨b, o + i * 2 + 1, none⟩ = some v ∧ ClOk w (Z i) c v
  apart : ∀ i j, Z i j → ¬ InB A j
  dis : ∀ i k j, i ≠ k → Z i j → ¬ Z k j
/-- All blocks of clauses. -/
def ZB (A : Option Addr) (Z : Nat → Nat → Prop) (j : Nat) : Prop := InB A j ∨ ∃ i, Z i j
section
variable {w w' : World} {A : Option Addr} {n : Nat} {cs : List Cl} {Z : Nat → Nat → Prop} {Y : Nat → Prop}
theorem ClOk.kept {Zi : Nat → Prop} {c : Cl} {v : Value} (h : ClOk w Zi c v) (hk : Kept Y w w') (hd : ∀ j, Zi j → ¬ Y j) : ClOk w' Zi c v := by
  rcases h with ⟨h1, h2, p, X, pp, d, t, txt, e, hp, hz, hf⟩ | h
  · exact .inl ⟨h1, h2, p, X, pp, d, t, txt, e, hp.kept hk (fun j hj => hd j (hz j hj)), hz, hf⟩
  · exact .inr h
theorem ClsAt.kept (h : ClsAt w A n cs Z) (hk : Kept Y w w') (hd : ∀ j, ZB A Z j → ¬ Y j) : ClsAt w' A n cs Z :=
  ⟨h.len, h.max, fun hn => by
    obtain ⟨b, o, e, hb, hc⟩ := h.cells hn
    have hblk := hk.block b hb (hd b (.inl ⟨o, e⟩))
    refine ⟨b, o, e, Nat.lt_of_lt_of_le hb hk.size, fun i c hi => ?_⟩
    obtain ⟨z0, v, z1, z2⟩ := hc i c hi
    exact ⟨(World.cell?_of_block (a := ⟨b, o + i * 2, none⟩) hblk).trans z0, v, (World.cell?_of_block (a := ⟨b, o + i * 2 + 1, none⟩) hblk).trans z1, z2.kept hk fun j hj => hd j (.inr ⟨i, hj⟩)⟩, h.apart, h.dis⟩
theorem ClsAt.below (h : ClsAt w A n cs Z) (hb : Below w.heap.size w w') : ClsAt w' A n cs Z := h.kept (kept_below (X := fun _ => False) hb) (fun _ _ h => h)
/-- One clause's machine has run. -/
theorem ClsAt.ran (h : ClsAt w A n cs Z) {k : Nat} {c : Cl} {p pp d : Nat} {X : Nat → Prop} {t : Tr} {txt : ByteArray} (hc : cs[k]? = some c) (h1 : 1 ≤ c.kind) (h2 : c.kind ≤ 3) (hz : ∀ j, X j ∨ j = p → Z k j) (hpp : X pp)
    (hv : ∀ b o, A = some ⟨b, o, none⟩ → w.cell? ⟨b, o + k * 2 + 1, none⟩ = some (.pointer (some ⟨p, 0, none⟩))) (hp : PatAt w' X p c.kind txt pp d t)
    (hf : ∀ bs a b ok, findR bs d t a b ok → (ok = false ∧ c.find bs = none) ∨ (ok = true ∧ ∃ f u : Nat, a = (f : Nat) ∧ b = (u : Nat) ∧ c.find bs = some (f, u) ∧ f ≤ u ∧ u ≤ bs.length))
    (hk : Kept (fun j => j = pp) w w') : ClsAt w' A n cs Z :=
  ⟨h.len, h.max, fun hn => by
    obtain ⟨b, o, e, hb, hcc⟩ := h.cells hn
    have hblk := hk.block b hb (fun e2 => h.apart k pp (hz pp (.inl hpp)) ⟨o, e2 ▸ e⟩)
    refine ⟨b, o, e, Nat.lt_of_lt_of_le hb hk.size, fun i c2 hi => ?_⟩
    obtain ⟨z0, v, z1, z2⟩ := hcc i c2 hi
    refine ⟨(World.cell?_of_block (a := ⟨b, o + i * 2, none⟩) hblk).trans z0, v, (World.cell?_of_block (a := ⟨b, o + i * 2 + 1, none⟩) hblk).trans z1, ?_⟩
    by_cases hik : i = k
    · subst hik
      obtain rfl : c = c2 := Option.some.inj (hc.symm.trans hi)
      obtain rfl : Value.pointer (some ⟨p, 0, none⟩) = v := Option.some.inj ((hv b o e).symm.trans z1)
      exact .inl ⟨h1, h2, p, X, pp, d, t, txt, rfl, hp, hz, hf⟩
    · exact z2.kept hk fun j hj e2 => h.dis i k j hik hj (e2 ▸ hz pp (.inl hpp)), h.apart, h.dis⟩
end
end Go.Proofs.Ytgcbcdbfeaepkaa
namespace Go.Proofs.Ytgcbcdbfeaepkaa
open Go.RowKit Go.Maps

def IntQ (w : World) (k : Int) (e : Ending) (w' : World) : Prop := e = .returned (.int .i64 k) ∧ Below w.heap.size w w'
set_option maxRecDepth 100000 in
theorem first1_any (k kind : Int) (v : Value) (p : Nat) (w : World) (hp : w.cell? ⟨p, 0, none⟩ = some (.int .i64 kind)) (hl : p < w.heap.size) :
    Calls Try.prog 129 #[.agg #[.int .i64 k, v], .pointer (some ⟨p, 0, none⟩)] w fun e w' => e = .returned (.bool (k == kind)) ∧ Below w.heap.size w w' := by
  have hb := Lib.hid (fun o => (Below.refl w.heap.size w).alloc (Nat.le_refl _) o)
  go_enter Try.func129, Try.ntmps129
  go_wp2
  go_ret
  exact ⟨rfl, hb.out _⟩
section
variable {w w' : World} {A : Option Addr} {n c : Nat} {cs : List Cl} {Z : Nat → Nat → Prop}
set_option maxHeartbeats 1000000 in
set_option maxRecDepth 100000 in
theorem tindex_any (h : ClsAt w A n cs Z) (kind : Int) (p : Nat) (hp : w.cell? ⟨p, 0, none⟩ = some (.int .i64 kind)) (hl : p < w.heap.size) (c : Nat) :
    Calls Try.prog 128 #[.slice A n c, .func (.func 129) #[] #[.pointer (some ⟨p, 0, none⟩)]] w (IntQ w (firstK kind cs 0)) := by
  have hlen := h.len
  have hmax := h.max
  go_enter Try.func128, Try.ntmps128
  go_wp2_with fail
  go_loopw [8] (fun i wr => ∃ j : Nat, j ≤ n ∧ i = .int .i64 (j : Nat) ∧ firstK kind cs 0 = firstK kind (cs.drop j) (j : Nat) ∧ Below w.heap.size w wr) (fun i _ => n - (intOf i).toNat)
  case atStart => exact ⟨0, Nat.zero_le _, rfl, rfl, Below.refl _ _⟩
  case round =>
    obtain ⟨j, hj, rfl, hf, hb⟩ := hrel
    have HF := Lib.hid hf
    clear hf
    by_cases hlt : j < n
    · have hlt' : (j : Int) < (n : Int) := by omega
      have hj0 : (0 : Int) ≤ (j : Int) := by omega
      obtain ⟨cl, hz⟩ : ∃ z, cs[j]? = some z := ⟨cs[j]'(by omega), List.getElem?_eq_getElem _⟩
      obtain ⟨b1, o1, rfl, hb1, hc1⟩ := (h.below hb).cells (by omega)
      obtain ⟨c0, v, c1, -⟩ := hc1 j _ hz
      clear hc1
      have hp' := (hb.cell (p := ⟨p, 0, none⟩) hl).trans hp
      have C := Lib.hid (first1_any cl.kind kind v p wr hp' (Nat.lt_of_lt_of_le hl hb.size))
      obtain ⟨ck, hck⟩ : ∃ ck, ck = cl.kind := ⟨_, rfl⟩
      rw [← hck] at C c0
      have HB := Lib.hid hb
      by_cases hd : ck = kind
      · have HM := Lib.hid (firstK_hit hz (hck ▸ hd) (j : Nat))
        subst hd
        rw [show (ck == ck) = true by simp] at C
        clear hz hck hp' hb
        go_wp2_with ((with_reducible refine C.out.mono ?_); rintro e w2 ⟨rfl, b2⟩)
        go_ret
        exact ⟨by rw [HF.out, HM.out]; rfl, HB.out.trans (b2.mono HB.out.size)⟩
      · have HM := Lib.hid (firstK_miss hz (hck ▸ hd) (j : Nat))
        rw [show (ck == kind) = false by simpa using hd] at C
        clear hz hck hp' hb hd
        go_wp2_with ((with_reducible refine C.out.mono ?_); rintro e w2 ⟨rfl, b2⟩)
        go_roundw
        case rel => exact ⟨j + 1, by omega, by go_num, HF.out.trans HM.out, HB.out.trans (b2.mono HB.out.size)⟩
        case measure => simp [intOf]; omega
    · have hlt' : ¬ (j : Int) < (n : Int) := by omega
      go_wp2
      go_ret
      exact ⟨by rw [HF.out, List.drop_of_length_le (by omega)]; rfl, hb⟩
set_option maxRecDepth 100000 in
theorem tfirst_any (h : ClsAt w A n cs Z) (kind : Int) (c : Nat) : Calls Try.prog 106 #[.slice A n c, .int .i64 kind] w (IntQ w (firstK kind cs 0)) := by
  have hmf : ∀ (fn : Fn) (first cap : Array Value) (w : World), (Instr.makeFunc fn first cap).run Try.prog w = .ok (.func fn first cap) w := fun _ _ _ _ => rfl
  have hb := (Below.refl w.heap.size w).alloc (Nat.le_refl _) (.cells #[.int .i64 kind] 3)
  have HB := Lib.hid hb
  have C := Lib.hid (tindex_any (h.below hb) kind w.heap.size (Blk.new w 3 #[.int .i64 kind] |>.cell 0) (by simp) c)
  clear hb
  go_enter Try.func106, Try.ntmps106
  go_wp2_with fail
  refine C.out.mono ?_
  rintro e w2 ⟨rfl, b2⟩
  have HB2 := Lib.hid b2
  go_wp2
  go_ret
  exact ⟨rfl, HB.out.trans (HB2.out.mono HB.out.size)⟩
theorem blk4 {w : World} {g : Nat} {t : TypeId} {a b c d : Value} (h : Blk w g t #[a, b, c, d]) : (w.cell? ⟨g, 0, none⟩ = some a ∧ w.cell? ⟨g, 1, none⟩ = some b ∧ w.cell? ⟨g, 2, none⟩ = some c ∧ w.cell? ⟨g, 3, none⟩ = some d) ∧ w.frozen? ⟨g, 0, none⟩ = false ∧ w.frozen? ⟨g, 1, none⟩ = false ∧ w.frozen? ⟨g, 2, none⟩ = false ∧ w.frozen? ⟨g, 3, none⟩ = false :=
  ⟨⟨h.cell 0, h.cell 1, h.cell 2, h.cell 3⟩, h.frozen 0, h.frozen 1, h.frozen 2, h.frozen 3⟩
theorem below4 {w V : World} {B : Nat} (h : Below B w V) {p : Nat} (hp : B ≤ p) (a b c d : Value) : Below B w ((((V.setCell ⟨p, 0, none⟩ a).setCell ⟨p, 1, none⟩ b).setCell ⟨p, 2, none⟩ c).setCell ⟨p, 3, none⟩ d) :=
  (((h.setCell (p := ⟨p, 0, none⟩) hp a).setCell (p := ⟨p, 1, none⟩) hp b).setCell (p := ⟨p, 2, none⟩) hp c).setCell (p := ⟨p, 3, none⟩) hp d
def outV (o : Out) (A : Option Addr) (m c : Nat) : Value := .agg #[.int .i64 o.kind, .int .i64 o.clause, .slice A m c, .int .i64 (o.gone : Nat)]
def EndQ (w : World) (o : Out) (e : Ending) (w' : World) : Prop := e = .returned (outV o none 0 0) ∧ Below w.heap.size w w'
set_option maxHeartbeats 1000000 in
set_option maxRecDepth 100000 in
theorem ended_any (h : ClsAt w A n cs Z) (what : Int) (spent : Bool) (c : Nat) : Calls Try.prog 80 #[.int .i64 what, .slice A n c, .bool spent] w (EndQ w (endedT cs what spent 0)) := by
  have C := Lib.hid (fun k => tfirst_any (h.below ((Below.refl w.heap.size w).alloc (Nat.le_refl _) (.cells #[.int .i64 0, .int .i64 0, .slice none 0 0, .int .i64 0] 105))) k c)
  have HB := Lib.hid ((Below.refl w.heap.size w).alloc (Nat.le_refl _) (.cells #[.int .i64 0, .int .i64 0, .slice none 0 0, .int .i64 0] 105))
  have HT := Lib.hid (Blk.new w 105 #[.int .i64 0, .int .i64 0, .slice none 0 0, .int .i64 0])
  have hsz : w.heap.size < (w.alloc (.cells #[.int .i64 0, .int .i64 0, .slice none 0 0, .int .i64 0] 105)).heap.size := by simp
  clear h
  by_cases h2 : what = 2
  · have e2 : (what == 2) = true := by simpa using h2
    rw [show endedT cs what spent 0 = ⟨3, firstK 5 cs 0, [], 0⟩ from by unfold endedT; simp [*]]
    clear h2
    go_enter Try.func80, Try.ntmps80
    go_wp2_with fail
    refine (C.out 5).mono ?_
    rintro e w2 ⟨rfl, b2⟩
    have HB2 := Lib.hid b2
    obtain ⟨⟨d0, d1, d2, d3⟩, f0, f1, f2, f3⟩ := blk4 (HT.out.below b2 hsz)
    clear b2
    go_wp2
    refine bodyPost_ret (v := .agg #[.int .i64 3, .int .i64 (firstK 5 cs 0), .slice none 0 0, .int .i64 0]) (by simp [results, Try.results80, go_sem, *]) rfl ⟨rfl, ?_⟩
    exact below4 (HB.out.trans (HB2.out.mono HB.out.size)) (Nat.le_refl _) _ _ _ _
  have e2 : (what == 2) = false := by simpa using h2
  by_cases h3 : what = 3
  · have e3 : (what == 3) = true := by simpa using h3
    rw [show endedT cs what spent 0 = ⟨4, firstK 6 cs 0, [], 0⟩ from by unfold endedT; simp [*]]
    clear h2 h3
    go_enter Try.func80, Try.ntmps80
    go_wp2_with fail
    refine (C.out 6).mono ?_
    rintro e w2 ⟨rfl, b2⟩
    have HB2 := Lib.hid b2
    obtain ⟨⟨d0, d1, d2, d3⟩, f0, f1, f2, f3⟩ := blk4 (HT.out.below b2 hsz)
    clear b2
    go_wp2
    refine bodyPost_ret (v := .agg #[.int .i64 4, .int .i64 (firstK 6 cs 0), .slice none 0 0, .int .i64 0]) (by simp [results, Try.results80, go_sem, *]) rfl ⟨rfl, ?_⟩
    exact below4 (HB.out.trans (HB2.out.mono HB.out.size)) (Nat.le_refl _) _ _ _ _
  have e3 : (what == 3) = false := by simpa using h3
  cases spent
  · skip
    rw [show endedT cs what false 0 = ⟨5, firstK 4 cs 0, [], 0⟩ from by unfold endedT; simp [*]]
    clear h2 h3
    go_enter Try.func80, Try.ntmps80
    go_wp2_with fail
    refine (C.out 4).mono ?_
    rintro e w2 ⟨rfl, b2⟩
    have HB2 := Lib.hid b2
    obtain ⟨⟨d0, d1, d2, d3⟩, f0, f1, f2, f3⟩ := blk4 (HT.out.below b2 hsz)
    clear b2
    go_wp2
    refine bodyPost_ret (v := .agg #[.int .i64 5, .int .i64 (firstK 4 cs 0), .slice none 0 0, .int .i64 0]) (by simp [results, Try.results80, go_sem, *]) rfl ⟨rfl, ?_⟩
    exact below4 (HB.out.trans (HB2.out.mono HB.out.size)) (Nat.le_refl _) _ _ _ _
  · skip
    rw [show endedT cs what true 0 = ⟨6, (-1), [], 0⟩ from by unfold endedT; simp [*]]
    clear h2 h3
    go_enter Try.func80, Try.ntmps80
    go_wp2
    refine bodyPost_ret (v := .agg #[.int .i64 6, .int .i64 ((-1)), .slice none 0 0, .int .i64 0]) (by simp [results, Try.results80, go_sem, *]) rfl ⟨rfl, ?_⟩
    exact (Below.refl w.heap.size w).alloc (Nat.le_refl _) _
end
end Go.Proofs.Ytgcbcdbfeaepkaa
namespace Go.Proofs.Ytgcbcdbfeaepkaa
open Go.RowKit Go.Maps

structure TS (w0 w : World) (lp bp : Nat) (X R Y : Nat → Prop) (A : Option Addr) (n : Nat) (cs : List Cl) (Z : Nat → Nat → Prop) (s : Ls) (bs : List UInt8) (most : Nat) (gone : Int) : Prop where
  line : LS w0 w lp X R s
  buf : BS w0 w bp Y bs most gone
  cls : ClsAt w A n cs Z
  xy : ∀ j, (X j ∨ R j) → ¬ Y j
  xz : ∀ j, (X j ∨ R j) → ¬ ZB A Z j
  yz : ∀ j, Y j → ¬ ZB A Z j
  zin : ∀ j, ZB A Z j → j < w.heap.size ∧ w0.heap.size ≤ j
section
variable {w0 w w' : World} {lp bp : Nat} {X R Y : Nat → Prop} {A : Option Addr} {n : Nat} {cs : List Cl} {Z : Nat → Nat → Prop} {s : Ls} {bs : List UInt8} {most : Nat} {gone : Int}
theorem TS.below (h : TS w0 w lp bp X R Y A n cs Z s bs most gone) (hb : Below w.heap.size w w') : TS w0 w' lp bp X R Y A n cs Z s bs most gone :=
  ⟨h.line.below hb, h.buf.below hb, h.cls.below hb, h.xy, h.xz, h.yz, fun j hj => ⟨Nat.lt_of_lt_of_le (h.zin j hj).1 hb.size, (h.zin j hj).2⟩⟩
/-- Clauses' machines have run. -/
theorem TS.ran (h : TS w0 w lp bp X R Y A n cs Z s bs most gone) (hk : Kept (ZB A Z) w w') (hc : ClsAt w' A n cs Z) : TS w0 w' lp bp X R Y A n cs Z s bs most gone :=
  ⟨h.line.kept hk h.xz (fun j hj => (h.zin j hj).2), h.buf.kept hk h.yz (fun j hj => (h.zin j hj).2), hc, h.xy, h.xz, h.yz, fun j hj => ⟨Nat.lt_of_lt_of_le (h.zin j hj).1 hk.size, (h.zin j hj).2⟩⟩
theorem TS.took (h : TS w0 w lp bp X R Y A n cs Z s bs most gone) {bs' : List UInt8} (hk : Kept Y w w') (hb : BS w0 w' bp Y bs' most gone) : TS w0 w' lp bp X R Y A n cs Z s bs' most gone :=
  ⟨h.line.kept hk h.xy h.buf.own, hb, h.cls.kept hk (fun j hj hy => h.yz j hy hj), h.xy, h.xz, h.yz, fun j hj => ⟨Nat.lt_of_lt_of_le (h.zin j hj).1 hk.size, (h.zin j hj).2⟩⟩
theorem TS.went (h : TS w0 w lp bp X R Y A n cs Z s bs most gone) {s' : Ls} (hk : Kept X w w') (hl : LS w0 w' lp X R s') : TS w0 w' lp bp X R Y A n cs Z s' bs most gone :=
  ⟨hl, h.buf.kept hk (fun j hj hx => h.xy j (.inl hx) hj) h.line.own, h.cls.kept hk (fun j hj hx => h.xz j (.inl hx) hj), h.xy, h.xz, h.yz, fun j hj => ⟨Nat.lt_of_lt_of_le (h.zin j hj).1 hk.size, (h.zin j hj).2⟩⟩
theorem TS.put (h : TS w0 w lp bp X R Y A n cs Z s bs most gone) {Y' : Nat → Prop} {bs' : List UInt8} {gone' : Int} (hk : Kept Y w w') (hb : BS w0 w' bp Y' bs' most gone') (hy : ∀ j, Y' j → Y j ∨ w.heap.size ≤ j) : TS w0 w' lp bp X R Y' A n cs Z s bs' most gone' :=
  ⟨h.line.kept hk h.xy h.buf.own, hb, h.cls.kept hk (fun j hj hy => h.yz j hy hj), fun j hj hy2 => by
    rcases hy j hy2 with h1 | h1
    · exact h.xy j hj h1
    · have := (h.line.inn j hj).1; omega, h.xz, fun j hj hz => by
    rcases hy j hj with h1 | h1
    · exact h.yz j h1 hz
    · have := (h.zin j hz).1; omega, fun j hj => ⟨Nat.lt_of_lt_of_le (h.zin j hj).1 hk.size, (h.zin j hj).2⟩⟩
def FindQ (w : World) (A : Option Addr) (n : Nat) (cs : List Cl) (Z : Nat → Nat → Prop) (c : Cl) (bs : List UInt8) (e : Ending) (w' : World) : Prop :=
  ∃ a b ok, e = .returned (.tuple #[.int .i64 a, .int .i64 b, .bool ok]) ∧ ((ok = false ∧ c.find bs = none) ∨ (ok = true ∧ ∃ f u : Nat, a = (f : Nat) ∧ b = (u : Nat) ∧ c.find bs = some (f, u) ∧ f ≤ u ∧ u ≤ bs.length)) ∧ ClsAt w' A n cs Z ∧ Kept (ZB A Z) w w'
set_option maxHeartbeats 1000000 in
set_option maxRecDepth 100000 in
theorem tfind_any (h : ClsAt w A n cs Z) {i : Nat} {c : Cl} {v : Value} (hc : cs[i]? = some c) (hv : ∀ b o, A = some ⟨b, o, none⟩ → w.cell? ⟨b, o + i * 2 + 1, none⟩ = some v) (hok : ClOk w (Z i) c v) {B : Option Addr} {m d : Nat} {xs : List UInt8} (hx : BytesAt w B m xs) (hB : ∀ j, InB B j → ¬ ZB A Z j) (hm : m ≤ 100000000) :
    Calls Try.prog 104 #[.agg #[.int .i64 c.kind, v], .slice B m d] w (FindQ w A n cs Z c xs) := by
  obtain ⟨ck, hck⟩ : ∃ ck, ck = c.kind := ⟨_, rfl⟩
  rcases hok with ⟨h1, h2, p, XX, pp, dd, t, txt, rfl, hp, hz, hf⟩ | ⟨hk, hn, rfl⟩
  · have ba := (Below.refl w.heap.size w).alloc (Nat.le_refl _) (.cells #[.int .i64 ck, .pointer (some ⟨p, 0, none⟩)] 154)
    have F := Lib.hid (pfind_any (c := d) (hp.below ba) (hx.below ba) (fun _ b o e hb => hB b ⟨o, e⟩ (.inr ⟨i, hz b (.inl hb)⟩)) hm)
    have H := Lib.hid h
    have FIN := Lib.hid (fun (a b : Int) (ok : Bool) (w2 : World) (hf2 : findR xs dd t a b ok) (hP2 : PatAt w2 XX p c.kind txt pp dd t) (hk2 : Kept (fun j => j = pp) (w.alloc (.cells #[.int .i64 ck, .pointer (some ⟨p, 0, none⟩)] 154)) w2) => show FindQ w A n cs Z c xs (.returned (.tuple #[.int .i64 a, .int .i64 b, .bool ok])) w2 from
      ⟨a, b, ok, rfl, hf xs a b ok hf2, (H.out.below ba).ran hc h1 h2 hz hp.in_ (fun b o e => by
        have := hv b o e
        obtain ⟨b', o', e', hb', -⟩ := H.out.cells (by have := H.out.len; have := (List.getElem?_eq_some_iff.1 hc).1; omega)
        have : b = b' := by rw [e] at e'; injection e' with e'; injection e'
        subst this
        exact (ba.cell (p := ⟨b, o + i * 2 + 1, none⟩) hb').trans (hv b o e)) hP2 hf hk2,
        (kept_below ba).trans (hk2.mono (Y := ZB A Z) fun j _ hj => .inr ⟨i, hz j (.inl (hj ▸ hp.in_))⟩) (fun j hj => .inl hj)⟩)
    rw [← hck] at h1 h2 F FIN ⊢
    clear h hp hf hx hB hz hv hc hck
    rcases (by omega : ck = 1 ∨ ck = 2 ∨ ck = 3) with rfl | rfl | rfl
    all_goals
      clear h1 h2
      go_enter Try.func104, Try.ntmps104
      go_wp2_with fail
      refine F.out.mono ?_
      rintro e w2 ⟨a, b, ok, rfl, hf2, hP2, hk2⟩
      have R := Lib.hid (FIN.out a b ok w2 hf2 hP2 hk2)
      clear hf2 hP2 hk2
      go_wp2
      go_ret3
      exact R.out
  · have ba := (Below.refl w.heap.size w).alloc (Nat.le_refl _) (.cells #[.int .i64 ck, .pointer none] 154)
    have R := Lib.hid (show FindQ w A n cs Z c xs (.returned (.tuple #[.int .i64 0, .int .i64 0, .bool false])) (w.alloc (.cells #[.int .i64 ck, .pointer none] 154)) from ⟨0, 0, false, rfl, .inl ⟨rfl, hn xs⟩, h.below ba, kept_below ba⟩)
    rw [← hck] at hk ⊢
    have e1 : (ck == 1) = false := by simp; omega
    have e2 : (ck == 2) = false := by simp; omega
    have e3 : (ck == 3) = false := by simp; omega
    clear h hx hB hv hc hck hn hk
    go_enter Try.func104, Try.ntmps104
    go_wp2
    go_ret3
    exact R.out
end
end Go.Proofs.Ytgcbcdbfeaepkaa
