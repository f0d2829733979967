/- Plain functions: the text that rex.Text writes of a tree. No program. -/
import Derived.Test.YtjnhmcgjeljcmaaTa
namespace Go.Proofs.Ytjnhmcgjeljcmaa

def sgs : List UInt8 := [124, 40, 41, 42, 43, 63, 46, 91, 92]
def csgs : List UInt8 := [93, 94, 45, 92]
/-- A byte, where these signs don't mean themselves. -/
def letterT (sg : List UInt8) (b : UInt8) : List UInt8 := if b = 10 then [92, 110] else if b = 9 then [92, 116] else if sg.contains b then [92, b] else [b]
def range1T (r : UInt8 × UInt8) : List UInt8 := letterT csgs r.1 ++ if r.2 = r.1 then [] else 45 :: letterT csgs r.2
def rangesT (rs : List (UInt8 × UInt8)) : List UInt8 := rs.flatMap range1T
theorem rangesT_snoc (rs : List (UInt8 × UInt8)) (r : UInt8 × UInt8) : rangesT (rs ++ [r]) = rangesT rs ++ range1T r := by simp [rangesT]
theorem letterT_len (sg : List UInt8) (b : UInt8) : (letterT sg b).length ≤ 2 := by
  unfold letterT; split
  · simp
  · split
    · simp
    · split <;> simp
theorem range1T_len (r : UInt8 × UInt8) : (range1T r).length ≤ 5 := by
  unfold range1T
  have h1 := letterT_len csgs r.1
  have h2 := letterT_len csgs r.2
  split <;> simp <;> omega
theorem rangesT_len : ∀ (rs : List (UInt8 × UInt8)), (rangesT rs).length ≤ 5 * rs.length
  | [] => by simp [rangesT]
  | r :: rs => by
    have h1 := range1T_len r
    have h2 := rangesT_len rs
    simp only [rangesT, List.flatMap_cons, List.length_append, List.length_cons] at h2 ⊢; omega
def oneR : List (UInt8 × UInt8) → Bool
  | [r] => r.2 == r.1
  | _ => false
/-- The text of the set of these ranges (a), whose others are o. -/
def setT2 (a o : List (UInt8 × UInt8)) : List UInt8 :=
  if oneR a then letterT sgs ((a.headD (0, 0)).1)
  else if o = [(10, 10)] then [46]
  else if a.length = 0 || (decide (0 < o.length) && decide (o.length < a.length)) then [91, 94] ++ rangesT o ++ [93]
  else [91] ++ rangesT a ++ [93]
def setTx (rs : List (UInt8 × UInt8)) : List UInt8 := setT2 (rangesL rs false) (rangesL rs true)
theorem setT_len (rs : List (UInt8 × UInt8)) : (setTx rs).length ≤ 1300 := by
  unfold setTx setT2
  have h1 := letterT_len sgs (((rangesL rs false).headD (0, 0)).1)
  have h2 := rangesT_len (rangesL rs false)
  have h3 := rangesT_len (rangesL rs true)
  have h4 : (rangesL rs false).length ≤ 256 := rgTo_length _ _
  have h5 : (rangesL rs true).length ≤ 256 := rgTo_length _ _
  split
  · omega
  · split
    · simp
    · split <;> simp <;> omega
def signT (k : Int) : List UInt8 := if k = 4 then [42] else if k = 5 then [43] else [63]
def kindOf : Tr → Int
  | .mk k _ _ => k
/-- Does a kid stand in ( ) in a node of this kind? -/
def within (k : Int) (c : Tr) : Bool := kindOf c == 3 || (kindOf c == 2 && k != 3)
def wrapP (b : Bool) (x : List UInt8) : List UInt8 := if b then [40] ++ x ++ [41] else x
mutual
def bodyT : Tr → List UInt8
  | .mk k rs kids => if k = 1 then setTx rs else if k = 2 ∨ k = 3 then kidsTx k true kids else if k = 4 ∨ k = 5 ∨ k = 6 then firstTx k kids else []
def kidsTx (k : Int) (first : Bool) : List Tr → List UInt8
  | [] => []
  | c :: cs => (if k = 3 ∧ first = false then [124] else []) ++ wrapP (within k c) (bodyT c) ++ kidsTx k false cs
def firstTx (k : Int) : List Tr → List UInt8
  | [] => []
  | c :: _ => wrapP (within k c) (bodyT c) ++ signT k
end
mutual
def stepsT : Tr → Nat
  | .mk k _ kids => if k = 2 ∨ k = 3 then 1 + stepsK kids else if k = 4 ∨ k = 5 ∨ k = 6 then stepsF kids else 0
def stepsK : List Tr → Nat
  | [] => 0
  | c :: cs => (1 + stepsT c) + stepsK cs
def stepsF : List Tr → Nat
  | [] => 0
  | c :: _ => 1 + (1 + stepsT c)
end
/-- A node of which something is still to be written. -/
structure Fr where
  kind : Int
  kids : List Tr
  next : Nat
  behind : List UInt8
def restF (f : Fr) : List UInt8 := kidsTx f.kind (f.next == 0) (f.kids.drop f.next) ++ f.behind
def pend (fs : List Fr) : List UInt8 := fs.reverse.flatMap restF
theorem pend_snoc (fs : List Fr) (f : Fr) : pend (fs ++ [f]) = restF f ++ pend fs := by simp [pend]
def workF (f : Fr) : Nat := 1 + stepsK (f.kids.drop f.next)
def work (fs : List Fr) : Nat := (fs.map workF).sum
theorem work_snoc (fs : List Fr) (f : Fr) : work (fs ++ [f]) = work fs + workF f := by simp [work]
theorem work_len : ∀ fs : List Fr, fs.length ≤ work fs
  | [] => by simp [work]
  | f :: fs => by
    have := work_len fs
    simp only [work, List.map_cons, List.sum_cons, List.length_cons, workF] at this ⊢; omega
/-- What a node writes at once, and what it opens. -/
def nowT (wi : Bool) : Tr → List UInt8
  | .mk k rs _ => if k = 1 then setTx rs else if k = 2 ∨ k = 3 then (if wi then [40] else []) else []
def openT (wi : Bool) : Tr → List Fr
  | .mk k _ kids => if k = 1 then [] else if k = 2 ∨ k = 3 then [⟨k, kids, 0, if wi then [41] else []⟩] else if k = 4 ∨ k = 5 ∨ k = 6 then (match kids with | [] => [] | c :: _ => [⟨k, [c], 0, signT k⟩]) else []
theorem begin_text (wi : Bool) (t : Tr) (hw : wi = true → kindOf t = 2 ∨ kindOf t = 3) : nowT wi t ++ pend (openT wi t) = wrapP wi (bodyT t) := by
  obtain ⟨k, rs, kids⟩ := t
  unfold nowT openT bodyT
  dsimp only
  by_cases h1 : k = 1
  · have hwi : wi = false := by
      cases wi with
      | false => rfl
      | true => have := hw rfl; simp [kindOf] at this; omega
    simp [h1, hwi, wrapP, pend]
  · rw [if_neg h1, if_neg h1, if_neg h1]
    by_cases h2 : k = 2 ∨ k = 3
    · rw [if_pos h2, if_pos h2, if_pos h2]
      cases wi <;> simp [pend, restF, wrapP]
    · have hwi : wi = false := by
        cases wi with
        | false => rfl
        | true => exact absurd (hw rfl) h2
      rw [if_neg h2, if_neg h2, if_neg h2]
      by_cases h3 : k = 4 ∨ k = 5 ∨ k = 6
      · rw [if_pos h3, if_pos h3]
        cases kids with
        | nil => simp [pend, hwi, wrapP, firstTx]
        | cons c cs => simp [pend, restF, hwi, wrapP, firstTx, kidsTx]
      · rw [if_neg h3, if_neg h3]; simp [pend, hwi, wrapP]
theorem begin_work (wi : Bool) (t : Tr) : work (openT wi t) = stepsT t := by
  obtain ⟨k, rs, kids⟩ := t
  unfold openT stepsT
  dsimp only
  by_cases h1 : k = 1
  · simp [h1, work]
  · rw [if_neg h1]
    by_cases h2 : k = 2 ∨ k = 3
    · rw [if_pos h2, if_pos h2]; simp [work, workF]
    · rw [if_neg h2, if_neg h2]
      by_cases h3 : k = 4 ∨ k = 5 ∨ k = 6
      · rw [if_pos h3, if_pos h3]
        cases kids with
        | nil => simp [work, stepsF]
        | cons c cs => simp [work, workF, stepsF, stepsK]
      · rw [if_neg h3, if_neg h3]; simp [work]
theorem within_kind {k : Int} {c : Tr} (h : within k c = true) : kindOf c = 2 ∨ kindOf c = 3 := by
  simp only [within, Bool.or_eq_true, Bool.and_eq_true, beq_iff_eq] at h
  rcases h with h | h
  · exact .inr h
  · exact .inl h.1
def sepT (f : Fr) : List UInt8 := if f.kind = 3 ∧ 0 < f.next then [124] else []
theorem goOn_text (f : Fr) (c : Tr) (h : f.kids[f.next]? = some c) : restF f = (sepT f ++ nowT (within f.kind c) c) ++ (pend (openT (within f.kind c) c) ++ restF { f with next := f.next + 1 }) := by
  have hl := (List.getElem?_eq_some_iff.1 h).1
  have hd : f.kids.drop f.next = c :: f.kids.drop (f.next + 1) := by
    rw [List.drop_eq_getElem_cons hl]
    have := (List.getElem?_eq_some_iff.1 h).2
    rw [this]
  have hb := begin_text (within f.kind c) c within_kind
  unfold restF
  rw [hd, kidsTx, ← hb]
  have hs : (if f.kind = 3 ∧ (f.next == 0) = false then [124] else []) = sepT f := by
    unfold sepT
    by_cases h0 : f.next = 0
    · simp [h0]
    · have : 0 < f.next := by omega
      simp [h0, this]
  rw [hs]
  simp
theorem goOn_work (f : Fr) (c : Tr) (h : f.kids[f.next]? = some c) : workF f = 1 + (work (openT (within f.kind c) c) + workF { f with next := f.next + 1 }) := by
  have hl := (List.getElem?_eq_some_iff.1 h).1
  have hd : f.kids.drop f.next = c :: f.kids.drop (f.next + 1) := by
    rw [List.drop_eq_getElem_cons hl]
    have := (List.getElem?_eq_some_iff.1 h).2
    rw [this]
  unfold workF
  rw [hd, stepsK, begin_work]; simp only; omega
theorem end_text (f : Fr) (h : f.next = f.kids.length) : restF f = f.behind := by
  unfold restF; rw [h, List.drop_length]; simp [kidsTx]
theorem end_work (f : Fr) (h : f.next = f.kids.length) : workF f = 1 := by
  unfold workF; rw [h, List.drop_length]; simp [stepsK]
end Go.Proofs.Ytjnhmcgjeljcmaa
