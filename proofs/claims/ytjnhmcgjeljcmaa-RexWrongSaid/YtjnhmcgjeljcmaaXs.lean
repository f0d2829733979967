/- rex.sign; plain functions of rex's parser. -/
import Derived.Test.YtjnhmcgjeljcmaaXc
namespace Go.Proofs.Ytjnhmcgjeljcmaa
open Go.RowKit

/-- A sign's kind; 0: none. -/
def kindX (c : UInt8) : Int := if c = 42 then 4 else if c = 43 then 5 else if c = 63 then 6 else 0
def signX : List UInt8 → Int
  | [] => 0
  | c :: _ => kindX c
def signN (l : List UInt8) : Nat := if signX l = 0 then 0 else 1
theorem signX_rest (s : ByteArray) (k : Nat) (h : k < s.size) : signX (restL s k) = kindX (byteAt s k) := by rw [rest_cons s k h]; rfl

theorem sign_any (b k : Nat) (s : ByteArray) (w : World) (hc : Cur w b s k) (hk : k ≤ s.size) (hs : s.size ≤ maxLen) :
    Calls Try.prog 134 #[.pointer (some ⟨b, 0, none⟩)] w fun e w' => e = .returned (.int .i64 (signX (restL s k))) ∧ Cur w' b s (k + signN (restL s k)) ∧ w.grownBy w' (some b) := by
  have main : ∀ (x y z : Bool) (r : Int) (n : Nat), isB [42] s k = x → isB [43] s k = y → isB [63] s k = z →
      r = (if x then 4 else if y then 5 else if z then 6 else 0) → n = (if x || y || z then 1 else 0) →
      Calls Try.prog 134 #[.pointer (some ⟨b, 0, none⟩)] w fun e w' => e = .returned (.int .i64 r) ∧ Cur w' b s (k + n) ∧ w.grownBy w' (some b) := by
    intro x y z r n hx hy hz hr hn
    subst hr hn
    cases x with
    | true =>
      clear hy hz
      go_enter Try.func134, Try.ntmps134
      go_wp2_with fail
      refine (skip_yes b k s ⟨#[42]⟩ _ hc hk hs hx).mono ?_
      rintro e w1 ⟨rfl, hc1, g1⟩
      go_wp2
      go_ret
      exact ⟨rfl, hc1, g1⟩
    | false =>
      cases y with
      | true =>
        clear hz
        go_enter Try.func134, Try.ntmps134
        go_wp2_with fail
        refine (skip_no b k s ⟨#[42]⟩ _ hc hk hx).mono ?_
        rintro e w1 ⟨rfl, hc1, g1⟩
        go_wp2_with fail
        refine (skip_yes b k s ⟨#[43]⟩ _ hc1 hk hs hy).mono ?_
        rintro e w2 ⟨rfl, hc2, g2⟩
        go_wp2
        go_ret
        exact ⟨rfl, hc2, gb_trans g1 g2⟩
      | false =>
        cases z with
        | true =>
          go_enter Try.func134, Try.ntmps134
          go_wp2_with fail
          refine (skip_no b k s ⟨#[42]⟩ _ hc hk hx).mono ?_
          rintro e w1 ⟨rfl, hc1, g1⟩
          go_wp2_with fail
          refine (skip_no b k s ⟨#[43]⟩ _ hc1 hk hy).mono ?_
          rintro e w2 ⟨rfl, hc2, g2⟩
          go_wp2_with fail
          refine (skip_yes b k s ⟨#[63]⟩ _ hc2 hk hs hz).mono ?_
          rintro e w3 ⟨rfl, hc3, g3⟩
          go_wp2
          go_ret
          exact ⟨rfl, hc3, gb_trans (gb_trans g1 g2) g3⟩
        | false =>
          go_enter Try.func134, Try.ntmps134
          go_wp2_with fail
          refine (skip_no b k s ⟨#[42]⟩ _ hc hk hx).mono ?_
          rintro e w1 ⟨rfl, hc1, g1⟩
          go_wp2_with fail
          refine (skip_no b k s ⟨#[43]⟩ _ hc1 hk hy).mono ?_
          rintro e w2 ⟨rfl, hc2, g2⟩
          go_wp2_with fail
          refine (skip_no b k s ⟨#[63]⟩ _ hc2 hk hz).mono ?_
          rintro e w3 ⟨rfl, hc3, g3⟩
          go_wp2
          go_ret
          exact ⟨rfl, hc3, gb_trans (gb_trans g1 g2) g3⟩
  refine main (isB [42] s k) (isB [43] s k) (isB [63] s k) _ _ rfl rfl rfl ?_ ?_
  · by_cases h : k < s.size
    · rw [signX_rest s k h, isB_one _ _ _ h, isB_one _ _ _ h, isB_one _ _ _ h]; simp [kindX]
    · rw [rest_nil s k (by omega), isB_nil _ _ _ _ (by omega), isB_nil _ _ _ _ (by omega), isB_nil _ _ _ _ (by omega)]; rfl
  · unfold signN
    by_cases h : k < s.size
    · rw [signX_rest s k h, isB_one _ _ _ h, isB_one _ _ _ h, isB_one _ _ _ h]
      unfold kindX
      by_cases h1 : byteAt s k = 42
      · simp [h1]
      · by_cases h2 : byteAt s k = 43
        · simp [h2]
        · by_cases h3 : byteAt s k = 63
          · simp [h3]
          · simp [h1, h2, h3]
    · rw [rest_nil s k (by omega), isB_nil _ _ _ _ (by omega), isB_nil _ _ _ _ (by omega), isB_nil _ _ _ _ (by omega)]; rfl

/-- The signs behind an atom, each wrapped around what was. -/
def signsX (t : Tr) : List UInt8 → Tr × Nat
  | [] => (t, 0)
  | c :: l => if kindX c = 0 then (t, 0) else let r := signsX (.mk (kindX c) [] [t]) l; (r.1, r.2 + 1)
def dotT : Tr := .mk 1 (rangesL [(10, 10)] true) []
def digitT : Tr := .mk 1 [(48, 57)] []
/-- A group, behind its (. -/
def groupX (Al : List UInt8 → Pr) (l : List UInt8) : Pr :=
  match Al l with
  | .ok t n => if starts [41] (l.drop n) then .ok t (n + 1) else .err 31 n
  | .err c o => .err c o
/-- An atom; Al is what reads an alternation one level further in. -/
def atomX (Al : List UInt8 → Pr) (l : List UInt8) : Pr :=
  if signX l ≠ 0 then .err 30 0
  else if starts [40] l then (groupX Al (l.drop 1)).shift 1
  else if starts [91] l then (classX (l.drop 1)).shift 1
  else if starts [46] l then .ok dotT 1
  else if starts [92, 100] l then .ok digitT 2
  else match letterX l with
    | .ok c n => .ok (.mk 1 [(c, c)] []) n
    | .err c o => .err c o
def pieceX (Al : List UInt8 → Pr) (l : List UInt8) : Pr :=
  match atomX Al l with
  | .ok t n => let r := signsX t (l.drop n); .ok r.1 (n + r.2)
  | .err c o => .err c o
/-- A part: pieces up to | or ) or the end. -/
def partK (Al : List UInt8 → Pr) : Nat → List UInt8 → List Tr → Nat → Pr
  | 0, _, acc, m => .ok (.mk 2 [] acc) m
  | f + 1, l, acc, m =>
    if l.isEmpty || starts [124] l || starts [41] l then .ok (.mk 2 [] acc) m
    else match pieceX Al l with
      | .ok t n => partK Al f (l.drop n) (acc ++ [t]) (m + n)
      | .err c o => .err c (m + o)
def partX (Al : List UInt8 → Pr) (l : List UInt8) : Pr := partK Al (l.length + 1) l [] 0
/-- The parts behind the first. -/
def altK (Al : List UInt8 → Pr) : Nat → List UInt8 → List Tr → Nat → Pr
  | 0, _, acc, m => .ok (.mk 3 [] acc) m
  | f + 1, l, acc, m =>
    if starts [124] l then match partX Al (l.drop 1) with
      | .ok t n => altK Al f (l.drop (1 + n)) (acc ++ [t]) (m + (1 + n))
      | .err c o => .err c (m + (1 + o))
    else .ok (match acc with | [t] => t | _ => .mk 3 [] acc) m
/-- An alternation that opens fewer than d groups within each other. -/
def altX : Nat → List UInt8 → Pr
  | 0, _ => .err 0 0
  | d + 1, l => match partX (altX d) l with
    | .ok t n => altK (altX d) (l.length + 1) (l.drop n) [t] n
    | .err c o => .err c o
def wholeX (l : List UInt8) : Pr :=
  match altX (l.length + 1) l with
  | .ok t n => if n = l.length then .ok t n else .err 30 n
  | .err c o => .err c o
def shown : Pr → Option (Int × Nat)
  | .ok _ _ => none
  | .err c o => some (c, o)
theorem try1 : shown (wholeX "a(b|c)*\\d+".toUTF8.data.toList) = none := by decide +kernel
theorem try2 : shown (wholeX "a(b|c".toUTF8.data.toList) = some (31, 5) := by decide +kernel
theorem try3 : shown (wholeX "a|*".toUTF8.data.toList) = some (30, 2) := by decide +kernel
theorem try4 : shown (wholeX "a)".toUTF8.data.toList) = some (30, 1) := by decide +kernel
end Go.Proofs.Ytjnhmcgjeljcmaa
