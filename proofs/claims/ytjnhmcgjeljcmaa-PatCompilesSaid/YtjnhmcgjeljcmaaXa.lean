/- rex.sign; plain functions of rex's parser. rex.group. rex.atom. -/
import Derived.Test.YtjnhmcgjeljcmaaXc
namespace Go.Proofs.Ytjnhmcgjeljcmaa
open Go.RowKit

/-- A sign's kind; 0: none. -/
def kindX (c : UInt8) : Int := if c = 42 then 4 else if c = 43 then 5 else if c = 63 then 6 else 0
def signX : List UInt8 → Int
  | [] => 0
  | c :: _ => kindX c
def signN (l : List UInt8) : Nat := if signX l = 0 then 0 else 1
theorem signX_rest (s : ByteArray) (k : Nat) (h : k < s.size) : signX (restL s k) = kindX (byteAt s k) := by rw [rest_cons s k h]; rfl

theorem sign_any (b k : Nat) (s : ByteArray) (w : World) (hc : Cur w b s k) (hk : k ≤ s.size) (hs : s.size ≤ maxLen) :
    Calls Try.prog 134 #[.pointer (some ⟨b, 0, none⟩)] w fun e w' => e = .returned (.int .i64 (signX (restL s k))) ∧ Cur w' b s (k + signN (restL s k)) ∧ w.grownBy w' (some b) := by
  have main : ∀ (x y z : Bool) (r : Int) (n : Nat), isB [42] s k = x → isB [43] s k = y → isB [63] s k = z →
      r = (if x then 4 else if y then 5 else if z then 6 else 0) → n = (if x || y || z then 1 else 0) →
      Calls Try.prog 134 #[.pointer (some ⟨b, 0, none⟩)] w fun e w' => e = .returned (.int .i64 r) ∧ Cur w' b s (k + n) ∧ w.grownBy w' (some b) := by
    intro x y z r n hx hy hz hr hn
    subst hr hn
    cases x with
    | true =>
      clear hy hz
      go_enter Try.func134, Try.ntmps134
      go_wp2_with fail
      refine (skip_yes b k s ⟨#[42]⟩ _ hc hk hs hx).mono ?_
      rintro e w1 ⟨rfl, hc1, g1⟩
      go_wp2
      go_ret
      exact ⟨rfl, hc1, g1⟩
    | false =>
      cases y with
      | true =>
        clear hz
        go_enter Try.func134, Try.ntmps134
        go_wp2_with fail
        refine (skip_no b k s ⟨#[42]⟩ _ hc hk hx).mono ?_
        rintro e w1 ⟨rfl, hc1, g1⟩
        go_wp2_with fail
        refine (skip_yes b k s ⟨#[43]⟩ _ hc1 hk hs hy).mono ?_
        rintro e w2 ⟨rfl, hc2, g2⟩
        go_wp2
        go_ret
        exact ⟨rfl, hc2, gb_trans g1 g2⟩
      | false =>
        cases z with
        | true =>
          go_enter Try.func134, Try.ntmps134
          go_wp2_with fail
          refine (skip_no b k s ⟨#[42]⟩ _ hc hk hx).mono ?_
          rintro e w1 ⟨rfl, hc1, g1⟩
          go_wp2_with fail
          refine (skip_no b k s ⟨#[43]⟩ _ hc1 hk hy).mono ?_
          rintro e w2 ⟨rfl, hc2, g2⟩
          go_wp2_with fail
          refine (skip_yes b k s ⟨#[63]⟩ _ hc2 hk hs hz).mono ?_
          rintro e w3 ⟨rfl, hc3, g3⟩
          go_wp2
          go_ret
          exact ⟨rfl, hc3, gb_trans (gb_trans g1 g2) g3⟩
        | false =>
          go_enter Try.func134, Try.ntmps134
          go_wp2_with fail
          refine (skip_no b k s ⟨#[42]⟩ _ hc hk hx).mono ?_
          rintro e w1 ⟨rfl, hc1, g1⟩
          go_wp2_with fail
          refine (skip_no b k s ⟨#[43]⟩ _ hc1 hk hy).mono ?_
          rintro e w2 ⟨rfl, hc2, g2⟩
          go_wp2_with fail
          refine (skip_no b k s ⟨#[63]⟩ _ hc2 hk hz).mono ?_
          rintro e w3 ⟨rfl, hc3, g3⟩
          go_wp2
          go_ret
          exact ⟨rfl, hc3, gb_trans (gb_trans g1 g2) g3⟩
  refine main (isB [42] s k) (isB [43] s k) (isB [63] s k) _ _ rfl rfl rfl ?_ ?_
  · by_cases h : k < s.size
    · rw [signX_rest s k h, isB_one _ _ _ h, isB_one _ _ _ h, isB_one _ _ _ h]; simp [kindX]
    · rw [rest_nil s k (by omega), isB_nil _ _ _ _ (by omega), isB_nil _ _ _ _ (by omega), isB_nil _ _ _ _ (by omega)]; rfl
  · unfold signN
    by_cases h : k < s.size
    · rw [signX_rest s k h, isB_one _ _ _ h, isB_one _ _ _ h, isB_one _ _ _ h]
      unfold kindX
      by_cases h1 : byteAt s k = 42
      · simp [h1]
      · by_cases h2 : byteAt s k = 43
        · simp [h2]
        · by_cases h3 : byteAt s k = 63
          · simp [h3]
          · simp [h1, h2, h3]
    · rw [rest_nil s k (by omega), isB_nil _ _ _ _ (by omega), isB_nil _ _ _ _ (by omega), isB_nil _ _ _ _ (by omega)]; rfl

/-- The signs behind an atom, each wrapped around what was. -/
def signsX (t : Tr) : List UInt8 → Tr × Nat
  | [] => (t, 0)
  | c :: l => if kindX c = 0 then (t, 0) else let r := signsX (.mk (kindX c) [] [t]) l; (r.1, r.2 + 1)
def dotT : Tr := .mk 1 (rangesL [(10, 10)] true) []
def digitT : Tr := .mk 1 [(48, 57)] []
/-- A group, behind its (. -/
def groupX (Al : List UInt8 → Pr) (l : List UInt8) : Pr :=
  match Al l with
  | .ok t n => if starts [41] (l.drop n) then .ok t (n + 1) else .err 31 n
  | .err c o => .err c o
/-- An atom; Al is what reads an alternation one level further in. -/
def atomX (Al : List UInt8 → Pr) (l : List UInt8) : Pr :=
  if signX l ≠ 0 then .err 30 0
  else if starts [40] l then (groupX Al (l.drop 1)).shift 1
  else if starts [91] l then (classX (l.drop 1)).shift 1
  else if starts [46] l then .ok dotT 1
  else if starts [92, 100] l then .ok digitT 2
  else match letterX l with
    | .ok c n => .ok (.mk 1 [(c, c)] []) n
    | .err c o => .err c o
def pieceX (Al : List UInt8 → Pr) (l : List UInt8) : Pr :=
  match atomX Al l with
  | .ok t n => let r := signsX t (l.drop n); .ok r.1 (n + r.2)
  | .err c o => .err c o
/-- A part: pieces up to | or ) or the end. -/
def partK (Al : List UInt8 → Pr) : Nat → List UInt8 → List Tr → Nat → Pr
  | 0, _, acc, m => .ok (.mk 2 [] acc) m
  | f + 1, l, acc, m =>
    if l.isEmpty || starts [124] l || starts [41] l then .ok (.mk 2 [] acc) m
    else match pieceX Al l with
      | .ok t n => partK Al f (l.drop n) (acc ++ [t]) (m + n)
      | .err c o => .err c (m + o)
def partX (Al : List UInt8 → Pr) (l : List UInt8) : Pr := partK Al (l.length + 1) l [] 0
/-- The parts behind the first. -/
def altK (Al : List UInt8 → Pr) : Nat → List UInt8 → List Tr → Nat → Pr
  | 0, _, acc, m => .ok (.mk 3 [] acc) m
  | f + 1, l, acc, m =>
    if starts [124] l then match partX Al (l.drop 1) with
      | .ok t n => altK Al f (l.drop (1 + n)) (acc ++ [t]) (m + (1 + n))
      | .err c o => .err c (m + (1 + o))
    else .ok (match acc with | [t] => t | _ => .mk 3 [] acc) m
/-- An alternation that opens fewer than d groups within each other. -/
def altX : Nat → List UInt8 → Pr
  | 0, _ => .err 0 0
  | d + 1, l => match partX (altX d) l with
    | .ok t n => altK (altX d) (l.length + 1) (l.drop n) [t] n
    | .err c o => .err c o
def wholeX (l : List UInt8) : Pr :=
  match altX (l.length + 1) l with
  | .ok t n => if n = l.length then .ok t n else .err 30 n
  | .err c o => .err c o
def shown : Pr → Option (Int × Nat)
  | .ok _ _ => none
  | .err c o => some (c, o)
theorem try1 : shown (wholeX "a(b|c)*\\d+".toUTF8.data.toList) = none := by decide +kernel
theorem try2 : shown (wholeX "a(b|c".toUTF8.data.toList) = some (31, 5) := by decide +kernel
theorem try3 : shown (wholeX "a|*".toUTF8.data.toList) = some (30, 2) := by decide +kernel
theorem try4 : shown (wholeX "a)".toUTF8.data.toList) = some (30, 1) := by decide +kernel
end Go.Proofs.Ytjnhmcgjeljcmaa
namespace Go.Proofs.Ytjnhmcgjeljcmaa
open Go.RowKit

/-- rex.alternation at k is what Al reads there, and takes no more than there is. -/
def IsAl (Al : List UInt8 → Pr) (b : Nat) (s : ByteArray) (k : Nat) : Prop :=
  (∀ w, Cur w b s k → Calls Try.prog 54 #[.pointer (some ⟨b, 0, none⟩)] w (NPost w b s k (Al (restL s k)))) ∧ ∀ t n, Al (restL s k) = .ok t n → k + n ≤ s.size
theorem NPost.ok_ {w : World} {b k n : Nat} {s : ByteArray} {r : Pr} {t : Tr} {e : Ending} {w' : World} (h : NPost w b s k r e w') (hr : r = .ok t n) :
    NodeRes w t e w' ∧ Cur w' b s (k + n) ∧ w.grownBy w' (some b) := by subst hr; exact h
theorem NPost.err_ {w : World} {b k n : Nat} {s : ByteArray} {r : Pr} {c : Int} {e : Ending} {w' : World} (h : NPost w b s k r e w') (hr : r = .err c n) :
    e = flawE c (k + n) ∧ w.grownBy w' (some b) := by subst hr; exact h

set_option maxHeartbeats 400000 in
theorem group_any (Al : List UInt8 → Pr) (b k : Nat) (s : ByteArray) (w : World) (hc : Cur w b s k) (_ : k ≤ s.size) (hs : s.size ≤ 256) (hA : IsAl Al b s k) :
    Calls Try.prog 152 #[.pointer (some ⟨b, 0, none⟩)] w (NPost w b s k (groupX Al (restL s k))) := by
  have hsm : s.size ≤ maxLen := by unfold maxLen; omega
  have hb0 : b < w.heap.size := Blk.lt hc
  have HA := Lib.hid hA.1
  unfold groupX
  cases hl : Al (restL s k) with
  | err c o =>
    have HL := Lib.hid hl
    clear hl
    go_enter Try.func152, Try.ntmps152
    go_wp2_with fail
    refine (HA.out _ (Blk.alloc hc _)).mono ?_
    intro e w1 hp
    obtain ⟨rfl, g1⟩ := hp.err_ HL.out
    clear hp
    go_wp2
    exact ⟨rfl, rfl, gb_trans (gb_alloc (gb_refl _ _) _) g1⟩
  | ok t n =>
    have hn := hA.2 _ _ hl
    have HL := Lib.hid hl
    clear hl hA
    simp only [rest_drop]
    cases h41 : isB [41] s (k + n) with
    | false =>
      rw [if_neg (by rw [← preB_starts]; unfold isB at h41; rw [h41]; simp)]
      go_enter Try.func152, Try.ntmps152
      go_wp2_with fail
      refine (HA.out _ (Blk.alloc hc _)).mono ?_
      intro e w1 hp
      obtain ⟨⟨d, kk, A, m, c, A', m', c', rfl, ht⟩, hc1, g1⟩ := hp.ok_ HL.out
      clear hp ht
      have gw := gb_trans (gb_alloc (gb_refl w (some b)) _) g1
      go_wp2_with fail
      refine (skip_no b (k + n) s ⟨#[41]⟩ _ (Blk.alloc hc1 _) hn h41).mono ?_
      rintro e w2 ⟨rfl, hc2, g2⟩
      go_wp2_with fail
      refine (at_any b (k + n) s _ hc2).mono ?_
      rintro e w3 ⟨rfl, rfl⟩
      go_wp2
      exact ⟨rfl, rfl, gb_trans (gb_alloc gw _) g2⟩
    | true =>
      rw [if_pos (by rw [← preB_starts]; exact h41)]
      go_enter Try.func152, Try.ntmps152
      go_wp2_with fail
      refine (HA.out _ (Blk.alloc hc _)).mono ?_
      intro e w1 hp
      obtain ⟨⟨d, kk, A, m, c, A', m', c', rfl, ht⟩, hc1, g1⟩ := hp.ok_ HL.out
      clear hp
      have gw := gb_trans (gb_alloc (gb_refl w (some b)) _) g1
      have hlt1 : w.heap.size + 1 ≤ w1.heap.size := by have := g1.size; simpa using this
      have hblk : Blk w1 w.heap.size 26 _ := (Blk.new w 26 _).grown g1 (by simp; omega)
      have HT := Lib.hid ht
      clear ht g1
      go_wp2_with fail
      refine (skip_yes b (k + n) s ⟨#[41]⟩ _ (Blk.alloc hc1 _) hn hsm h41).mono ?_
      rintro e w2 ⟨rfl, hc2, g2⟩
      have hs2 : w1.heap.size + 1 ≤ w2.heap.size := by have := g2.size; simpa using this
      have hblkN : Blk w2 w1.heap.size 26 _ := (Blk.new w1 26 _).grown g2 (by simp; omega)
      have hblk2 := (hblk.alloc _).grown g2 (by simp; omega)
      obtain ⟨p0, p1, p2, z0, z1, z2⟩ := blk3 hblk2
      obtain ⟨q0, q1, q2, y0, y1, y2⟩ := blk3 hblkN
      have gw2 := gb_trans (gb_alloc gw _) g2
      have HT2 := Lib.hid (HT.out.keep (w' := w2) fun j hj => by
        have h1 := hj.1
        have h2 := hj.2
        simp at h1
        rw [g2.block j (by simp; omega) (by simp; omega), Below.heap_alloc _ _ _ h2])
      clear hblk hblk2 hblkN HT g2
      go_wp2
      refine bodyPost_ret (v := .agg #[.int .i64 kk, .slice A m c, .slice A' m' c']) (by simp [results, Try.results152, go_sem, *]) rfl ⟨⟨d, kk, A, m, c, A', m', c', rfl, ?_⟩, ?_, ?_⟩
      · refine (HT2.out.keep (w' := ((w2.setCell ⟨w.heap.size, 0, none⟩ _).setCell ⟨w.heap.size, 1, none⟩ _).setCell ⟨w.heap.size, 2, none⟩ _) fun j hj => ?_).mono fun j hj => ⟨?_, ?_⟩
        · have : j ≠ w.heap.size := by have := hj.1; simp at this; omega
          rw [Below.heap_setCell _ _ _ _ this, Below.heap_setCell _ _ _ _ this, Below.heap_setCell _ _ _ _ this]
        · have := hj.1; simp at this; omega
        · simp [World.setCell]; have := hj.2; omega
      · exact ((Blk.far hc2 (by simp; omega) _).far (by simp; omega) _).far (by simp; omega) _
      · exact gb_set (gb_set (gb_set gw2 (.inr (Nat.le_refl _)) _) (.inr (Nat.le_refl _)) _) (.inr (Nat.le_refl _)) _
end Go.Proofs.Ytjnhmcgjeljcmaa
namespace Go.Proofs.Ytjnhmcgjeljcmaa
open Go.RowKit

theorem sign_no (b k : Nat) (s : ByteArray) (w : World) (hc : Cur w b s k) (hk : k ≤ s.size) (hs : s.size ≤ maxLen) (h : signX (restL s k) = 0) :
    Calls Try.prog 134 #[.pointer (some ⟨b, 0, none⟩)] w fun e w' => e = .returned (.int .i64 0) ∧ Cur w' b s k ∧ w.grownBy w' (some b) := by
  have := sign_any b k s w hc hk hs
  unfold signN at this
  rw [h, if_pos rfl] at this
  exact this
theorem sign_yes (b k : Nat) (s : ByteArray) (w : World) (hc : Cur w b s k) (hk : k ≤ s.size) (hs : s.size ≤ maxLen) (h : signX (restL s k) ≠ 0) :
    Calls Try.prog 134 #[.pointer (some ⟨b, 0, none⟩)] w fun e w' => e = .returned (.int .i64 (signX (restL s k))) ∧ Cur w' b s (k + 1) ∧ w.grownBy w' (some b) := by
  have := sign_any b k s w hc hk hs
  unfold signN at this
  rw [if_neg h] at this
  exact this
theorem node_end {w w2 : World} {b k2 d m c m' c' : Nat} {s : ByteArray} {kk : Int} {A A' : Option Addr} {t : Tr} (hT : TreeAt w2 (fun j => w.heap.size + 1 ≤ j ∧ j < w2.heap.size) d t [.int .i64 kk, .slice A m c, .slice A' m' c'])
    (hc2 : Cur w2 b s k2) (gw2 : w.grownBy w2 (some b)) (hb0 : b < w.heap.size) (v0 v1 v2 : Value) :
    NodeRes w t (.returned (.agg #[.int .i64 kk, .slice A m c, .slice A' m' c'])) (((w2.setCell ⟨w.heap.size, 0, none⟩ v0).setCell ⟨w.heap.size, 1, none⟩ v1).setCell ⟨w.heap.size, 2, none⟩ v2) ∧
    Cur (((w2.setCell ⟨w.heap.size, 0, none⟩ v0).setCell ⟨w.heap.size, 1, none⟩ v1).setCell ⟨w.heap.size, 2, none⟩ v2) b s k2 ∧ w.grownBy (((w2.setCell ⟨w.heap.size, 0, none⟩ v0).setCell ⟨w.heap.size, 1, none⟩ v1).setCell ⟨w.heap.size, 2, none⟩ v2) (some b) := by
  refine ⟨⟨d, kk, A, m, c, A', m', c', rfl, ?_⟩, ?_, ?_⟩
  refine (hT.keep (w' := ((w2.setCell ⟨w.heap.size, 0, none⟩ v0).setCell ⟨w.heap.size, 1, none⟩ v1).setCell ⟨w.heap.size, 2, none⟩ v2) fun j hj => ?_).mono fun j hj => ⟨?_, ?_⟩
  · have : j ≠ w.heap.size := by have := hj.1; omega
    rw [Below.heap_setCell _ _ _ _ this, Below.heap_setCell _ _ _ _ this, Below.heap_setCell _ _ _ _ this]
  · have := hj.1; omega
  · simp [World.setCell]; have := hj.2; omega
  · exact ((Blk.far hc2 (by simp; omega) _).far (by simp; omega) _).far (by simp; omega) _
  · exact gb_set (gb_set (gb_set gw2 (.inr (Nat.le_refl _)) _) (.inr (Nat.le_refl _)) _) (.inr (Nat.le_refl _)) _

set_option maxHeartbeats 400000 in
theorem atom_group (Al : List UInt8 → Pr) (b k : Nat) (s : ByteArray) (w : World) (hc : Cur w b s k) (hk : k ≤ s.size) (hs : s.size ≤ 256) (hsg : signX (restL s k) = 0) (h40 : isB [40] s k = true) (hA : IsAl Al b s (k + 1)) :
    Calls Try.prog 133 #[.pointer (some ⟨b, 0, none⟩)] w (NPost w b s k ((groupX Al (restL s (k + 1))).shift 1)) := by
    have hsm : s.size ≤ maxLen := by unfold maxLen; omega
    have hb0 : b < w.heap.size := Blk.lt hc
    have hl := isB_le h40
    simp at hl
    go_enter Try.func133, Try.ntmps133
    go_wp2_with fail
    refine (at_any b k s _ (Blk.alloc hc _)).mono ?_
    rintro e w0 ⟨rfl, rfl⟩
    go_wp2_with fail
    refine (sign_no b k s _ (Blk.alloc hc _) hk hsm hsg).mono ?_
    rintro e w1 ⟨rfl, hc1, g1⟩
    have hblk1 : Blk w1 w.heap.size 26 _ := (Blk.new w 26 _).grown g1 (by simp; omega)
    have gw1 := gb_trans (gb_alloc (gb_refl w (some b)) _) g1
    clear g1
    go_wp2_with fail
    refine (skip_yes b k s ⟨#[40]⟩ _ hc1 hk hsm h40).mono ?_
    rintro e w2 ⟨rfl, hc2, g2⟩
    have hblk2 := hblk1.grown g2 (by simp; omega)
    have gw2 := gb_trans gw1 g2
    clear hc1 gw1 hblk1 g2
    go_wp2_with fail
    refine (group_any Al b (k + 1) s _ hc2 (by omega) hs hA).mono ?_
    intro e wx hp
    have hszx : w.heap.size + 1 ≤ w2.heap.size := hblk2.lt
    cases hR : groupX Al (restL s (k + 1)) with
    | err c o =>
      obtain ⟨he, gx⟩ := hp.err_ hR
      rw [Nat.add_assoc] at he
      subst he
      clear hp hR
      go_wp2
      exact ⟨rfl, rfl, gb_trans gw2 gx⟩
    | ok t n =>
      obtain ⟨⟨d, kk, A, m, c, A', m', c', rfl, ht⟩, hcx, gx⟩ := hp.ok_ hR
      have HRes := Lib.hid hR
      clear hp hR
      have hblkx := hblk2.grown gx (by simp; omega)
      obtain ⟨p0, p1, p2, z0, z1, z2⟩ := blk3 hblkx
      have HT := Lib.hid (ht.mono (Y := fun j => w.heap.size + 1 ≤ j ∧ j < wx.heap.size) fun j hj => ⟨by have := hj.1; omega, hj.2⟩)
      have gwx := gb_trans gw2 gx
      clear ht hblkx gx
      go_wp2
      refine bodyPost_ret (v := .agg #[.int .i64 kk, .slice A m c, .slice A' m' c']) (by simp [results, Try.results133, go_sem, *]) rfl ?_
      have := node_end HT.out hcx gwx hb0 (.int .i64 kk) (.slice A m c) (.slice A' m' c')
      rw [Nat.add_assoc] at this
      rw [HRes.out]
      exact this

set_option maxHeartbeats 400000 in
theorem atom_class (b k : Nat) (s : ByteArray) (w : World) (hc : Cur w b s k) (hk : k ≤ s.size) (hs : s.size ≤ 256) (hsg : signX (restL s k) = 0) (h40 : isB [40] s k = false) (h91 : isB [91] s k = true) :
    Calls Try.prog 133 #[.pointer (some ⟨b, 0, none⟩)] w (NPost w b s k ((classX (restL s (k + 1))).shift 1)) := by
    have hsm : s.size ≤ maxLen := by unfold maxLen; omega
    have hb0 : b < w.heap.size := Blk.lt hc
    have hl := isB_le h91
    simp at hl
    go_enter Try.func133, Try.ntmps133
    go_wp2_with fail
    refine (at_any b k s _ (Blk.alloc hc _)).mono ?_
    rintro e w0 ⟨rfl, rfl⟩
    go_wp2_with fail
    refine (sign_no b k s _ (Blk.alloc hc _) hk hsm hsg).mono ?_
    rintro e w1 ⟨rfl, hc1, g1⟩
    have hblk1 : Blk w1 w.heap.size 26 _ := (Blk.new w 26 _).grown g1 (by simp; omega)
    have gw1 := gb_trans (gb_alloc (gb_refl w (some b)) _) g1
    clear g1
    go_wp2_with fail
    refine (skip_no b k s ⟨#[40]⟩ _ hc1 hk h40).mono ?_
    rintro e w2 ⟨rfl, hc2, g2⟩
    have hblk2 := hblk1.grown g2 (by simp; omega)
    have gw2 := gb_trans gw1 g2
    clear hc1 gw1 hblk1 g2
    go_wp2_with fail
    refine (skip_yes b k s ⟨#[91]⟩ _ hc2 hk hsm h91).mono ?_
    rintro e w3 ⟨rfl, hc3, g3⟩
    have hblk3 := hblk2.grown g3 (by simp; omega)
    have gw3 := gb_trans gw2 g3
    clear hc2 gw2 hblk2 g3
    go_wp2_with fail
    refine (xclass_any b (k + 1) s _ hc3 (by omega) hs).mono ?_
    intro e wx hp
    have hszx : w.heap.size + 1 ≤ w3.heap.size := hblk3.lt
    cases hR : classX (restL s (k + 1)) with
    | err c o =>
      obtain ⟨he, gx⟩ := hp.err_ hR
      rw [Nat.add_assoc] at he
      subst he
      clear hp hR
      go_wp2
      exact ⟨rfl, rfl, gb_trans gw3 gx⟩
    | ok t n =>
      obtain ⟨⟨d, kk, A, m, c, A', m', c', rfl, ht⟩, hcx, gx⟩ := hp.ok_ hR
      have HRes := Lib.hid hR
      clear hp hR
      have hblkx := hblk3.grown gx (by simp; omega)
      obtain ⟨p0, p1, p2, z0, z1, z2⟩ := blk3 hblkx
      have HT := Lib.hid (ht.mono (Y := fun j => w.heap.size + 1 ≤ j ∧ j < wx.heap.size) fun j hj => ⟨by have := hj.1; omega, hj.2⟩)
      have gwx := gb_trans gw3 gx
      clear ht hblkx gx
      go_wp2
      refine bodyPost_ret (v := .agg #[.int .i64 kk, .slice A m c, .slice A' m' c']) (by simp [results, Try.results133, go_sem, *]) rfl ?_
      have := node_end HT.out hcx gwx hb0 (.int .i64 kk) (.slice A m c) (.slice A' m' c')
      rw [Nat.add_assoc] at this
      rw [HRes.out]
      exact this

set_option maxHeartbeats 400000 in
theorem atom_sign (b k : Nat) (s : ByteArray) (w : World) (hc : Cur w b s k) (hk : k ≤ s.size) (hs : s.size ≤ 256) (hsg : signX (restL s k) ≠ 0) :
    Calls Try.prog 133 #[.pointer (some ⟨b, 0, none⟩)] w (NPost w b s k (.err 30 0)) := by
    have hsm : s.size ≤ maxLen := by unfold maxLen; omega
    have hb0 : b < w.heap.size := Blk.lt hc
    have hv : (signX (restL s k) != 0) = true := by simpa using hsg
    have HY := Lib.hid (fun W hW => sign_yes b k s W hW hk hsm hsg)
    clear hsg
    generalize signX (restL s k) = v at *
    go_enter Try.func133, Try.ntmps133
    go_wp2_with fail
    refine (at_any b k s _ (Blk.alloc hc _)).mono ?_
    rintro e w0 ⟨rfl, rfl⟩
    go_wp2_with fail
    refine (HY.out _ (Blk.alloc hc _)).mono ?_
    rintro e w1 ⟨rfl, hc1, g1⟩
    go_wp2
    exact ⟨rfl, rfl, gb_trans (gb_alloc (gb_refl w (some b)) _) g1⟩
end Go.Proofs.Ytjnhmcgjeljcmaa
