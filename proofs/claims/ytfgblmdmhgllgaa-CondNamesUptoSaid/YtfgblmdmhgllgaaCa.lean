/- Plain functions: conditions, boards; when a condition is right, when it holds, its simple one, its names. No program. -/
import Derived.WalkKit
namespace Go.Proofs.Ytfgblmdmhgllgaa

def letB (c : Int) : Bool := (decide (97 ≤ c) && decide (c ≤ 122)) || (decide (65 ≤ c) && decide (c ≤ 90))
def digB (c : Int) : Bool := decide (48 ≤ c) && decide (c ≤ 57)
def okB (c : Int) : Bool := letB c || digB c || (c == 45) || (c == 95)
/-- the byte at a place -/
def bt (s : ByteArray) (i : Nat) : Int := ((s.data.toList.getD i 0).toNat : Int)
theorem bt_eq (s : ByteArray) (i : Nat) (h : i < s.size) : ((s[i]'h).toNat : Int) = bt s i := by
  have h' : i < s.data.toList.length := h
  simp only [bt, List.getD_eq_getElem?_getD, List.getElem?_eq_getElem h', Option.getD_some]
  rfl
theorem bt_bd (s : ByteArray) (i : Nat) : 0 ≤ bt s i ∧ bt s i < 256 := by
  have := (s.data.toList.getD i 0).toNat_lt
  simp only [bt]; omega
def allB (s : ByteArray) : Bool := s.data.toList.all fun c => okB (c.toNat : Int)
def wordB (s : ByteArray) : Bool := decide (1 ≤ s.size) && decide (s.size ≤ 40) && letB (bt s 0) && allB s
theorem allB_iff (s : ByteArray) : allB s = true ↔ ∀ j, j < s.size → okB (bt s j) = true := by
  unfold allB
  rw [List.all_eq_true]
  constructor
  · intro h j hj
    have hj' : j < s.data.toList.length := hj
    have := h s.data.toList[j] (List.getElem_mem hj')
    simpa only [bt, List.getD_eq_getElem?_getD, List.getElem?_eq_getElem hj', Option.getD_some] using this
  · intro h c hc
    obtain ⟨j, hj, rfl⟩ := List.mem_iff_getElem.1 hc
    have := h j hj
    simpa only [bt, List.getD_eq_getElem?_getD, List.getElem?_eq_getElem hj, Option.getD_some] using this
theorem wordB_yes {s : ByteArray} (h1 : 1 ≤ s.size) (h2 : s.size ≤ 40) (h3 : letB (bt s 0) = true) (h4 : ∀ j, j < s.size → okB (bt s j) = true) : wordB s = true := by
  simp [wordB, h1, h2, h3, (allB_iff s).2 h4]
theorem wordB_not {s : ByteArray} {j : Nat} (hj : j < s.size) (h : okB (bt s j) = false) : wordB s = false := by
  have : allB s = false := by
    rw [Bool.eq_false_iff]; intro hc; have := (allB_iff s).1 hc j hj; rw [h] at this; cases this
  simp [wordB, this]
theorem wordB_not0 {s : ByteArray} (h : letB (bt s 0) = false) : wordB s = false := by simp [wordB, h]
theorem wordB_small {s : ByteArray} (h : s.size < 1) : wordB s = false := by simp [wordB]; omega
theorem wordB_big {s : ByteArray} (h : 40 < s.size) : wordB s = false := by simp [wordB]; omega
theorem wordB_size {s : ByteArray} (h : wordB s = true) : 1 ≤ s.size ∧ s.size ≤ 40 := by
  simp [wordB] at h; omega
theorem okB_let {c : Int} (h : letB c = true) : okB c = true := by simp [okB, h]
theorem okB_dig {c : Int} (h : digB c = true) : okB c = true := by simp [okB, h]
theorem all_snoc {P : Nat → Prop} {k : Nat} (h : ∀ j, j < k → P j) (hk : P k) : ∀ j, j < k + 1 → P j := by
  intro j hj
  rcases Nat.lt_or_ge j k with h' | h'
  · exact h j h'
  · obtain rfl : j = k := by omega
    exact hk

/-- A condition. -/
inductive CT where
  | mk (kind : Int) (name val : ByteArray) (kids : List CT)
instance : Inhabited CT := ⟨.mk 0 default default []⟩
def CT.kind : CT → Int | .mk k _ _ _ => k
def CT.name : CT → ByteArray | .mk _ n _ _ => n
def CT.val : CT → ByteArray | .mk _ _ v _ => v
def CT.kids : CT → List CT | .mk _ _ _ ks => ks

def emp (s : ByteArray) : Bool := s.toList.isEmpty
/-- Is it right, as far as that doesn't hang on its kids' being right. -/
def alone (k : Int) (n v : ByteArray) (m : Nat) : Bool :=
  if k = 1 ∨ k = 2 then wordB n && decide (m = 0)
  else if k = 3 then emp n && emp v && decide (m = 1)
  else if k = 4 ∨ k = 5 then emp n && emp v && decide (2 ≤ m)
  else false
def rightT : Nat → CT → Bool
  | 0, _ => false
  | d + 1, .mk k n v kids => alone k n v kids.length && kids.all (rightT d)
theorem rightT_up : ∀ (d e : Nat) (t : CT), d ≤ e → rightT d t = true → rightT e t = true
  | 0, _, _, _, h => by cases h
  | d + 1, e, .mk k n v kids, hde, h => by
    match e, hde with
    | e + 1, hde =>
      simp only [rightT, Bool.and_eq_true, List.all_eq_true] at h ⊢
      exact ⟨h.1, fun x hx => rightT_up d e x (by omega) (h.2 x hx)⟩
/-- What the board has: names and values, in order. -/
abbrev Props := List (ByteArray × ByteArray)
def hasP (ps : Props) (n v : ByteArray) : Bool := match ps.find? (fun p => decide (p.1 = n)) with
  | some p => decide (p.2 = v)
  | none => false
mutual
def holdsT (ps : Props) : CT → Bool
  | .mk k n v kids => if k = 1 then hasP ps n v else if k = 2 then !hasP ps n v else if k = 3 then !firstT ps kids else if k = 5 then anyT ps kids else allT ps kids
def firstT (ps : Props) : List CT → Bool
  | [] => false
  | t :: _ => holdsT ps t
def anyT (ps : Props) : List CT → Bool
  | [] => false
  | t :: ts => holdsT ps t || anyT ps ts
def allT (ps : Props) : List CT → Bool
  | [] => true
  | t :: ts => holdsT ps t && allT ps ts
end
theorem anyT_eq (ps : Props) : ∀ ts, anyT ps ts = ts.any (holdsT ps)
  | [] => rfl
  | t :: ts => by rw [anyT, List.any_cons, anyT_eq ps ts]
theorem allT_eq (ps : Props) : ∀ ts, allT ps ts = ts.all (holdsT ps)
  | [] => rfl
  | t :: ts => by rw [allT, List.all_cons, allT_eq ps ts]
mutual
/-- The names that it asks for, perhaps more than once. -/
def namesT : CT → List ByteArray
  | .mk k n _ kids => (if k = 1 ∨ k = 2 then [n] else []) ++ namesK kids
def namesK : List CT → List ByteArray
  | [] => []
  | t :: ts => namesT t ++ namesK ts
end
theorem namesK_eq : ∀ ts, namesK ts = ts.flatMap namesT
  | [] => rfl
  | t :: ts => by rw [namesK, List.flatMap_cons, namesK_eq ts]
def opp (k : Int) : Int := if k = 1 then 2 else if k = 2 then 1 else if k = 4 then 5 else 4
def flat (k : Int) (t : CT) : List CT := if t.kind = k then t.kids else [t]
mutual
def simpT (no : Bool) : CT → CT
  | .mk k n v kids => if k = 3 then simpF (!no) kids else .mk (if no then opp k else k) n v (simpK no (if no then opp k else k) kids)
def simpF (no : Bool) : List CT → CT
  | [] => .mk 0 default default []
  | t :: _ => simpT no t
def simpK (no : Bool) (k : Int) : List CT → List CT
  | [] => []
  | t :: ts => flat k (simpT no t) ++ simpK no k ts
end
theorem simpK_eq (no : Bool) (k : Int) : ∀ ts, simpK no k ts = ts.flatMap fun t => flat k (simpT no t)
  | [] => rfl
  | t :: ts => by rw [simpK, List.flatMap_cons, simpK_eq no k ts]

theorem right_kids {d : Nat} {k : Int} {n v : ByteArray} {kids : List CT} (h : rightT (d + 1) (.mk k n v kids) = true) : alone k n v kids.length = true ∧ ∀ t ∈ kids, rightT d t = true := by
  simpa only [rightT, Bool.and_eq_true, List.all_eq_true] using h
theorem alone_cases {k : Int} {n v : ByteArray} {m : Nat} (h : alone k n v m = true) : ((k = 1 ∨ k = 2) ∧ wordB n = true ∧ m = 0) ∨ (k = 3 ∧ emp n = true ∧ emp v = true ∧ m = 1) ∨ ((k = 4 ∨ k = 5) ∧ emp n = true ∧ emp v = true ∧ 2 ≤ m) := by
  unfold alone at h
  split at h
  · rename_i hk; simp only [Bool.and_eq_true, decide_eq_true_eq] at h; exact .inl ⟨hk, h⟩
  · split at h
    · rename_i hk; simp only [Bool.and_eq_true, decide_eq_true_eq] at h; exact .inr (.inl ⟨hk, h.1.1, h.1.2, h.2⟩)
    · split at h
      · rename_i hk; simp only [Bool.and_eq_true, decide_eq_true_eq] at h; exact .inr (.inr ⟨hk, h.1.1, h.1.2, h.2⟩)
      · cases h
theorem alone_opp {k : Int} {n v : ByteArray} {m m' : Nat} (no : Bool) (h : alone k n v m = true) (hk : k ≠ 3) (hm : (m = 0 → m' = 0) ∧ (2 ≤ m → 2 ≤ m')) : alone (if no then opp k else k) n v m' = true := by
  rcases alone_cases h with ⟨h1 | h1, h2, h3⟩ | ⟨h1, _⟩ | ⟨h1 | h1, h2, h3, h4⟩
  · subst h1; cases no <;> simp [alone, opp, h2, hm.1 h3]
  · subst h1; cases no <;> simp [alone, opp, h2, hm.1 h3]
  · exact absurd h1 hk
  · subst h1; cases no <;> simp [alone, opp, h2, h3, hm.2 h4]
  · subst h1; cases no <;> simp [alone, opp, h2, h3, hm.2 h4]
theorem flat_right {d : Nat} {k : Int} {t : CT} (h : rightT d t = true) : ∀ x ∈ flat k t, rightT d x = true := by
  intro x hx
  unfold flat at hx
  split at hx
  · match d, t, h with
    | d + 1, .mk k n v kids, h => exact rightT_up d (d + 1) x (by omega) ((right_kids h).2 x hx)
  · rw [List.mem_singleton] at hx; rw [hx]; exact h
theorem flat_len {d : Nat} {k : Int} {t : CT} (h : rightT d t = true) (hk : k = 4 ∨ k = 5) : 1 ≤ (flat k t).length := by
  unfold flat
  split
  · rename_i he
    match d, t, h with
    | d + 1, .mk k' n v kids, h =>
      have h' := alone_cases (right_kids h).1
      have : k' = k := he
      show 1 ≤ kids.length
      omega
  · simp
theorem flats_len {d : Nat} {k : Int} (no : Bool) (hk : k = 4 ∨ k = 5) : ∀ ts : List CT, (∀ t ∈ ts, rightT d (simpT no t) = true) → ts.length ≤ (simpK no k ts).length
  | [], _ => by simp [simpK]
  | t :: ts, h => by
    have h1 := flat_len (h t (by simp)) hk
    have h2 := flats_len no hk ts (fun t ht => h t (by simp [ht]))
    simp only [simpK, List.length_append, List.length_cons]; omega
theorem opp_and {k : Int} (no : Bool) (hk : k = 4 ∨ k = 5) : (if no then opp k else k) = 4 ∨ (if no then opp k else k) = 5 := by
  rcases hk with rfl | rfl <;> cases no <;> simp [opp]
/-- P12.2: Simple's condition is right. -/
theorem simp_right : ∀ (d : Nat) (no : Bool) (t : CT), rightT d t = true → rightT d (simpT no t) = true
  | 0, _, _, h => by cases h
  | d + 1, no, .mk k n v kids, h => by
    obtain ⟨ha, hk⟩ := right_kids h
    by_cases h3 : k = 3
    · have hc := alone_cases ha
      match kids, hk, ha with
      | [], _, ha => exfalso; rcases hc with hc | hc | hc <;> simp at hc <;> omega
      | t :: ts, hk, ha =>
        rw [simpT, if_pos h3, simpF]
        exact rightT_up d (d + 1) _ (by omega) (simp_right d (!no) t (hk t (by simp)))
    · rw [simpT, if_neg h3]
      simp only [rightT, Bool.and_eq_true, List.all_eq_true]
      refine ⟨alone_opp no ha h3 ⟨fun h0 => ?_, fun h2 => ?_⟩, fun x hx => ?_⟩
      · rw [List.eq_nil_of_length_eq_zero h0]; rfl
      · have hc := alone_cases ha
        have := flats_len (d := d) no (opp_and no (k := k) (by omega)) kids (fun t ht => simp_right d no t (hk t ht))
        omega
      · rw [simpK_eq, List.mem_flatMap] at hx
        obtain ⟨t, ht, hx⟩ := hx
        exact flat_right (simp_right d no t (hk t ht)) x hx
theorem any_flat (ps : Props) {d : Nat} {t : CT} (h : rightT d t = true) : (flat 5 t).any (holdsT ps) = holdsT ps t := by
  unfold flat
  split
  · rename_i he
    match d, t, h with
    | d + 1, .mk k n v kids, h =>
      have hk : k = 5 := he
      subst hk
      rw [holdsT, if_neg (by omega), if_neg (by omega), if_neg (by omega), if_pos rfl, anyT_eq]; rfl
  · simp
theorem all_flat (ps : Props) {d : Nat} {t : CT} (h : rightT d t = true) : (flat 4 t).all (holdsT ps) = holdsT ps t := by
  unfold flat
  split
  · rename_i he
    match d, t, h with
    | d + 1, .mk k n v kids, h =>
      have hk : k = 4 := he
      subst hk
      rw [holdsT, if_neg (by omega), if_neg (by omega), if_neg (by omega), if_neg (by omega), allT_eq]; rfl
  · simp
theorem any_simpK (ps : Props) {d : Nat} (no : Bool) : ∀ ts : List CT, (∀ t ∈ ts, rightT d (simpT no t) = true) → anyT ps (simpK no 5 ts) = ts.any fun t => holdsT ps (simpT no t)
  | [], _ => rfl
  | t :: ts, h => by
    have ih := any_simpK ps no ts fun t ht => h t (by simp [ht])
    rw [anyT_eq] at ih ⊢
    rw [simpK, List.any_append, List.any_cons, any_flat ps (h t (by simp)), ih]
theorem all_simpK (ps : Props) {d : Nat} (no : Bool) : ∀ ts : List CT, (∀ t ∈ ts, rightT d (simpT no t) = true) → allT ps (simpK no 4 ts) = ts.all fun t => holdsT ps (simpT no t)
  | [], _ => rfl
  | t :: ts, h => by
    have ih := all_simpK ps no ts fun t ht => h t (by simp [ht])
    rw [allT_eq] at ih ⊢
    rw [simpK, List.all_append, List.all_cons, all_flat ps (h t (by simp)), ih]
theorem any_congr {α : Type} {f g : α → Bool} : ∀ l : List α, (∀ x ∈ l, f x = g x) → l.any f = l.any g
  | [], _ => rfl
  | x :: l, h => by rw [List.any_cons, List.any_cons, h x (by simp), any_congr l fun y hy => h y (by simp [hy])]
theorem all_congr {α : Type} {f g : α → Bool} : ∀ l : List α, (∀ x ∈ l, f x = g x) → l.all f = l.all g
  | [], _ => rfl
  | x :: l, h => by rw [List.all_cons, List.all_cons, h x (by simp), all_congr l fun y hy => h y (by simp [hy])]
theorem any_not {α : Type} (f : α → Bool) : ∀ l : List α, l.any (fun x => !f x) = !l.all f
  | [] => rfl
  | x :: l => by rw [List.any_cons, List.all_cons, any_not f l, Bool.not_and]
theorem all_not {α : Type} (f : α → Bool) : ∀ l : List α, l.all (fun x => !f x) = !l.any f
  | [] => rfl
  | x :: l => by rw [List.any_cons, List.all_cons, all_not f l, Bool.not_or]
/-- .. it holds of the same boards (of the others, if it is the contrary's). -/
theorem simp_holds (ps : Props) : ∀ (d : Nat) (no : Bool) (t : CT), rightT d t = true → holdsT ps (simpT no t) = (no != holdsT ps t)
  | 0, _, _, h => by cases h
  | d + 1, no, .mk k n v kids, h => by
    obtain ⟨ha, hk⟩ := right_kids h
    have hR := fun t ht => simp_right d no t (hk t ht)
    have hH : ∀ t ∈ kids, holdsT ps (simpT no t) = (no != holdsT ps t) := fun t ht => simp_holds ps d no t (hk t ht)
    rcases alone_cases ha with ⟨h1 | h1, h2, h3⟩ | ⟨h1, _, _, h4⟩ | ⟨h1 | h1, h2, h3, h4⟩
    · subst h1
      obtain rfl := List.eq_nil_of_length_eq_zero h3
      cases no <;> simp [simpT, simpK, holdsT, opp]
    · subst h1
      obtain rfl := List.eq_nil_of_length_eq_zero h3
      cases no <;> simp [simpT, simpK, holdsT, opp]
    · subst h1
      match kids, hk, h4 with
      | [t], hk, _ =>
        rw [simpT, if_pos rfl, simpF, simp_holds ps d (!no) t (hk t (by simp))]
        simp [holdsT, firstT]
    · subst h1
      rw [simpT, if_neg (by omega)]
      cases no with
      | false =>
        simp only [Bool.false_eq_true, if_false, holdsT]
        simp only [show ¬ (4 : Int) = 1 by omega, show ¬ (4 : Int) = 2 by omega, show ¬ (4 : Int) = 3 by omega, show ¬ (4 : Int) = 5 by omega, if_false]
        rw [all_simpK ps false kids hR, allT_eq, all_congr kids hH]
        simp
      | true =>
        simp only [if_true, holdsT, show opp 4 = 5 by simp [opp]]
        simp only [show ¬ (4 : Int) = 1 by omega, show ¬ (4 : Int) = 2 by omega, show ¬ (4 : Int) = 3 by omega, show ¬ (4 : Int) = 5 by omega, show ¬ (5 : Int) = 1 by omega, show ¬ (5 : Int) = 2 by omega, show ¬ (5 : Int) = 3 by omega, if_false]
        rw [any_simpK ps true kids hR, allT_eq, any_congr kids hH]
        simpa using any_not (holdsT ps) kids
    · subst h1
      rw [simpT, if_neg (by omega)]
      cases no with
      | false =>
        simp only [Bool.false_eq_true, if_false, holdsT]
        simp only [show ¬ (5 : Int) = 1 by omega, show ¬ (5 : Int) = 2 by omega, show ¬ (5 : Int) = 3 by omega, if_false, if_true]
        rw [any_simpK ps false kids hR, anyT_eq, any_congr kids hH]
        simp
      | true =>
        simp only [if_true, holdsT, show opp 5 = 4 by simp [opp]]
        simp only [show ¬ (4 : Int) = 1 by omega, show ¬ (4 : Int) = 2 by omega, show ¬ (4 : Int) = 3 by omega, show ¬ (4 : Int) = 5 by omega, show ¬ (5 : Int) = 1 by omega, show ¬ (5 : Int) = 2 by omega, show ¬ (5 : Int) = 3 by omega, if_false]
        rw [all_simpK ps true kids hR, anyT_eq, all_congr kids hH]
        simpa using all_not (holdsT ps) kids
/-- A condition without Not, and without an And in an And, or an Or in an Or. -/
def normT : Nat → CT → Bool
  | 0, _ => false
  | d + 1, .mk k _ _ kids => decide (k ≠ 3) && kids.all (fun t => normT d t && decide (t.kind ≠ k))
theorem normT_up : ∀ (d e : Nat) (t : CT), d ≤ e → normT d t = true → normT e t = true
  | 0, _, _, _, h => by cases h
  | d + 1, e, .mk k n v kids, hde, h => by
    match e, hde with
    | e + 1, hde =>
      simp only [normT, Bool.and_eq_true, List.all_eq_true] at h ⊢
      exact ⟨h.1, fun x hx => ⟨normT_up d e x (by omega) (h.2 x hx).1, (h.2 x hx).2⟩⟩
theorem norm_kids {d : Nat} {k : Int} {n v : ByteArray} {kids : List CT} (h : normT (d + 1) (.mk k n v kids) = true) : k ≠ 3 ∧ ∀ t ∈ kids, normT d t = true ∧ t.kind ≠ k := by
  simpa only [normT, Bool.and_eq_true, List.all_eq_true, decide_eq_true_eq] using h
theorem flat_norm {d : Nat} {k : Int} {t : CT} (h : normT d t = true) : ∀ x ∈ flat k t, normT d x = true ∧ x.kind ≠ k := by
  intro x hx
  unfold flat at hx
  split at hx
  · rename_i he
    match d, t, h with
    | d + 1, .mk k' n v kids, h =>
      have hk : k' = k := he
      subst hk
      have := (norm_kids h).2 x hx
      exact ⟨normT_up d (d + 1) x (by omega) this.1, this.2⟩
  · rename_i he
    rw [List.mem_singleton] at hx; rw [hx]; exact ⟨h, he⟩
theorem simp_norm : ∀ (d : Nat) (no : Bool) (t : CT), rightT d t = true → normT d (simpT no t) = true
  | 0, _, _, h => by cases h
  | d + 1, no, .mk k n v kids, h => by
    obtain ⟨ha, hk⟩ := right_kids h
    by_cases h3 : k = 3
    · have hc := alone_cases ha
      match kids, hk, ha with
      | [], _, ha => exfalso; rcases hc with hc | hc | hc <;> simp at hc <;> omega
      | t :: ts, hk, ha =>
        rw [simpT, if_pos h3, simpF]
        exact normT_up d (d + 1) _ (by omega) (simp_norm d (!no) t (hk t (by simp)))
    · rw [simpT, if_neg h3]
      simp only [normT, Bool.and_eq_true, List.all_eq_true, decide_eq_true_eq]
      refine ⟨?_, fun x hx => ?_⟩
      · unfold opp; split <;> (try split) <;> (try split) <;> (try split) <;> omega
      · rw [simpK_eq, List.mem_flatMap] at hx
        obtain ⟨t, ht, hx⟩ := hx
        exact flat_norm (simp_norm d no t (hk t ht)) x hx
theorem simpK_norm {d : Nat} {k : Int} : ∀ ts : List CT, (∀ t ∈ ts, simpT false t = t ∧ t.kind ≠ k) → simpK false k ts = ts
  | [], _ => rfl
  | t :: ts, h => by
    obtain ⟨h1, h2⟩ := h t (by simp)
    rw [simpK, h1, simpK_norm (d := d) ts fun t ht => h t (by simp [ht])]
    simp [flat, h2]
theorem norm_simp : ∀ (d : Nat) (t : CT), normT d t = true → simpT false t = t
  | 0, _, h => by cases h
  | d + 1, .mk k n v kids, h => by
    obtain ⟨h3, hk⟩ := norm_kids h
    rw [simpT, if_neg h3]
    simp only [Bool.false_eq_true, if_false]
    rw [simpK_norm (d := d) kids fun t ht => ⟨norm_simp d t (hk t ht).1, (hk t ht).2⟩]
/-- .. and is its own. -/
theorem simp_own {d : Nat} {t : CT} (h : rightT d t = true) : simpT false (simpT false t) = simpT false t := norm_simp d _ (simp_norm d false t h)
/-- Names: of a right condition that has no kids its own alone. -/
def asksT (nm : ByteArray) : Nat → CT → Bool
  | 0, _ => false
  | d + 1, .mk _ n _ kids => if kids.length = 0 then decide (n = nm) else kids.any (asksT nm d)
theorem right_leaf {k : Int} {n v : ByteArray} {m : Nat} (h : alone k n v m = true) : (k = 1 ∨ k = 2) ↔ m = 0 := by
  have := alone_cases h
  omega
theorem asks_iff (nm : ByteArray) : ∀ (d : Nat) (t : CT), rightT d t = true → (asksT nm d t = true ↔ nm ∈ namesT t)
  | 0, _, h => by cases h
  | d + 1, .mk k n v kids, h => by
    obtain ⟨ha, hk⟩ := right_kids h
    have hl := right_leaf ha
    rw [asksT, namesT]
    by_cases h0 : kids.length = 0
    · obtain rfl := List.eq_nil_of_length_eq_zero h0
      rw [if_pos h0, if_pos (hl.2 rfl)]
      simp [namesK, eq_comm]
    · rw [if_neg h0, if_neg (fun hc => h0 (hl.1 hc)), List.nil_append, namesK_eq, List.mem_flatMap, List.any_eq_true]
      exact ⟨fun ⟨t, ht, hx⟩ => ⟨t, ht, (asks_iff nm d t (hk t ht)).1 hx⟩, fun ⟨t, ht, hx⟩ => ⟨t, ht, (asks_iff nm d t (hk t ht)).2 hx⟩⟩
theorem has_filter (P : ByteArray → Bool) (n v : ByteArray) (hn : P n = true) : ∀ ps : Props, hasP (ps.filter fun p => P p.1) n v = hasP ps n v
  | [] => rfl
  | p :: ps => by
    have ih := has_filter P n v hn ps
    unfold hasP at ih ⊢
    by_cases he : p.1 = n
    · have hp : P p.1 = true := by rw [he]; exact hn
      rw [List.filter_cons, if_pos hp, List.find?_cons, List.find?_cons]
      simp only [he, decide_true]
    · by_cases hp : P p.1 = true
      · rw [List.filter_cons, if_pos hp, List.find?_cons, List.find?_cons]
        simp only [he, decide_false]
        exact ih
      · rw [List.filter_cons, if_neg hp, List.find?_cons]
        simp only [he, decide_false]
        exact ih
/-- Other properties don't count. -/
theorem holds_filter (P : ByteArray → Bool) (ps : Props) : ∀ (d : Nat) (t : CT), rightT d t = true → (∀ n ∈ namesT t, P n = true) → holdsT (ps.filter fun p => P p.1) t = holdsT ps t
  | 0, _, h, _ => by cases h
  | d + 1, .mk k n v kids, h, hP => by
    obtain ⟨ha, hk⟩ := right_kids h
    have hK : ∀ t ∈ kids, holdsT (ps.filter fun p => P p.1) t = holdsT ps t := fun t ht => holds_filter P ps d t (hk t ht) fun n hn => hP n (by
      rw [namesT, List.mem_append, namesK_eq]; exact .inr (List.mem_flatMap.2 ⟨t, ht, hn⟩))
    have hN : (k = 1 ∨ k = 2) → hasP (ps.filter fun p => P p.1) n v = hasP ps n v := fun hc => has_filter P n v (hP n (by rw [namesT, if_pos hc]; simp)) ps
    rw [holdsT, holdsT, anyT_eq, anyT_eq, allT_eq, allT_eq, any_congr kids hK, all_congr kids hK]
    by_cases h1 : k = 1
    · rw [if_pos h1, if_pos h1, hN (.inl h1)]
    · rw [if_neg h1, if_neg h1]
      by_cases h2 : k = 2
      · rw [if_pos h2, if_pos h2, hN (.inr h2)]
      · rw [if_neg h2, if_neg h2]
        have hF : firstT (ps.filter fun p => P p.1) kids = firstT ps kids := by
          cases kids with
          | nil => rfl
          | cons t ts => rw [firstT, firstT, hK t (by simp)]
        rw [hF]
end Go.Proofs.Ytfgblmdmhgllgaa
