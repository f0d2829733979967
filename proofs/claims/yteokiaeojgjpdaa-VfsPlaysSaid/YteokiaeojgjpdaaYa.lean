/- The document's own files, in plain words: with a file, without one. No program. -/
import Derived.Test.YteokiaeojgjpdaaUa
namespace Go.Proofs.Yteokiaeojgjpdaa
open Go.RowKit Go.Maps

abbrev T3 := List UInt8 × List UInt8 × Nat
theorem before_asymm {a b : List UInt8} (h : bytesBefore a b = true) : bytesBefore b a = false := by
  cases h2 : bytesBefore b a with
  | false => rfl
  | true => have := WideShapes.bytes_trans _ _ _ h h2; rw [WideAt.bytes_irrefl] at this; cases this
/-- One round of the loop of With. -/
def withStep (x : T3) (st : FV × Bool) (t : T3) : FV × Bool :=
  (st.1 ++ (if st.2 = false ∧ bytesBefore t.1 x.1 = false then [x] else []) ++ (if t.1 = x.1 then [] else [t]), st.2 || !(bytesBefore t.1 x.1))
theorem with_true (x : T3) : ∀ (V : FV) (o : FV), V.foldl (withStep x) (o, true) = (o ++ vdel x.1 V, true)
  | [], o => by simp [vdel]
  | t :: r, o => by
    rw [List.foldl_cons]
    have e : withStep x (o, true) t = (o ++ (if t.1 = x.1 then [] else [t]), true) := by unfold withStep; simp
    rw [e, with_true x r]
    unfold vdel
    by_cases h : t.1 = x.1
    · have hb : (t.1 == x.1) = true := by simpa using h
      rw [if_pos h, List.filter_cons, hb]; simp
    · have hb : (t.1 == x.1) = false := by simpa using h
      rw [if_neg h, List.filter_cons, hb]; simp
theorem vins_head {x : T3} {V : FV} (h : ∀ t ∈ V, bytesBefore x.1 t.1 = true) : vins x V = x :: V := by
  cases V with
  | nil => rfl
  | cons t r => unfold vins; rw [if_pos (h t (List.mem_cons_self ..))]
def withL (x : T3) (V : FV) : FV := if (V.foldl (withStep x) ([], false)).2 = true then (V.foldl (withStep x) ([], false)).1 else (V.foldl (withStep x) ([], false)).1 ++ [x]
theorem with_fin {x : T3} : ∀ {V : FV} (o : FV), RiseV V → (if (V.foldl (withStep x) (o, false)).2 = true then (V.foldl (withStep x) (o, false)).1 else (V.foldl (withStep x) (o, false)).1 ++ [x]) = o ++ vins x (vdel x.1 V)
  | [], o, _ => by simp [vdel, vins]
  | t :: r, o, h => by
    have h1 := List.pairwise_cons.1 h
    rw [List.foldl_cons]
    by_cases hb : bytesBefore t.1 x.1 = true
    · have hne : t.1 ≠ x.1 := before_ne hb
      have e : withStep x (o, false) t = (o ++ [t], false) := by unfold withStep; simp [hb, hne]
      rw [e, with_fin (o ++ [t]) h1.2]
      have hd : vdel x.1 (t :: r) = t :: vdel x.1 r := by
        unfold vdel
        have : (t.1 == x.1) = false := by simpa using hne
        rw [List.filter_cons, this]; simp
      rw [hd]
      conv => rhs; unfold vins
      rw [if_neg (by rw [before_asymm hb]; simp)]
      simp
    · have hb' : bytesBefore t.1 x.1 = false := by simpa using hb
      by_cases hne : t.1 = x.1
      · have e : withStep x (o, false) t = (o ++ [x], true) := by unfold withStep; rw [hb', if_pos ⟨rfl, rfl⟩, if_pos hne]; simp
        rw [e, with_true]
        have hd : vdel x.1 (t :: r) = vdel x.1 r := by
          unfold vdel
          have : (t.1 == x.1) = true := by simpa using hne
          rw [List.filter_cons, this]; simp
        rw [hd, vins_head (fun u hu => by rw [← hne]; exact h1.1 u (List.mem_filter.1 hu).1)]
        simp
      · have e : withStep x (o, false) t = (o ++ [x] ++ [t], true) := by unfold withStep; rw [hb', if_pos ⟨rfl, rfl⟩, if_neg hne]; simp
        rw [e, with_true]
        have hx : bytesBefore x.1 t.1 = true := by
          rcases WideAt.bytes_total t.1 x.1 hne with h2 | h2
          · exact absurd h2 hb
          · exact h2
        have hd : vdel x.1 (t :: r) = t :: vdel x.1 r := by
          unfold vdel
          have : (t.1 == x.1) = false := by simpa using hne
          rw [List.filter_cons, this]; simp
        rw [hd]
        conv => rhs; unfold vins
        rw [if_pos hx]
        simp
/-- With a file: it stands where its name rises, no other of its name. -/
theorem withL_eq {x : T3} {V : FV} (h : RiseV V) : withL x V = vins x (vdel x.1 V) := by
  have := with_fin (x := x) [] h
  rw [List.nil_append] at this
  exact this
theorem vlook_tail {nm : List UInt8} {t : T3} {r : FV} (h : t.1 ≠ nm) : vlook nm (t :: r) = vlook nm r := by
  unfold vlook
  have : (t.1 == nm) = false := by simpa using h
  rw [List.find?_cons, this]
theorem vlook_head {nm : List UInt8} {t : T3} {r : FV} (h : t.1 = nm) : vlook nm (t :: r) = some t := by
  unfold vlook
  have : (t.1 == nm) = true := by simpa using h
  rw [List.find?_cons, this]
/-- A file set anew in its place is the disk with it. -/
theorem vset_with {x t : T3} : ∀ {V : FV}, RiseV V → vlook x.1 V = some t → vset x V = vins x (vdel x.1 V)
  | [], _, h => by simp [vlook] at h
  | y :: r, hr, h => by
    have hr2 := List.pairwise_cons.1 hr
    by_cases hy : y.1 = x.1
    · have hn : vset x r = r := vset_none (fun u hu e2 => before_ne (hr2.1 u hu) (by rw [hy, e2]))
      have hyb : (y.1 == x.1) = true := by simpa using hy
      have e1 : vset x (y :: r) = x :: r := by
        unfold vset at hn ⊢
        rw [List.map_cons, hn, hyb]; rfl
      have hd : vdel x.1 (y :: r) = r := by
        have := vdel_none (nm := x.1) (V := r) (fun u hu e2 => before_ne (hr2.1 u hu) (by rw [hy, e2]))
        unfold vdel at this ⊢
        rw [List.filter_cons, hyb]
        simpa using this
      rw [e1, hd, vins_head (fun u hu => by rw [← hy]; exact hr2.1 u hu)]
    · have hyb : (y.1 == x.1) = false := by simpa using hy
      rw [vlook_tail hy] at h
      have ih := vset_with hr2.2 h
      have e1 : vset x (y :: r) = y :: vset x r := by
        unfold vset
        rw [List.map_cons, hyb]; rfl
      have hd : vdel x.1 (y :: r) = y :: vdel x.1 r := by
        unfold vdel
        rw [List.filter_cons, hyb]; simp
      obtain ⟨hm, hn⟩ := vlook_mem h
      have hb : bytesBefore y.1 x.1 = true := by rw [← hn]; exact hr2.1 t hm
      rw [e1, hd, ih]
      conv => rhs; unfold vins
      rw [if_neg (by rw [before_asymm hb]; simp)]
theorem vdel_none' {nm : List UInt8} {V : FV} (h : vlook nm V = none) : vdel nm V = V := vdel_none fun t ht e => by
  unfold vlook at h
  have := List.find?_eq_none.1 h t ht
  simp [e] at this
end Go.Proofs.Yteokiaeojgjpdaa
