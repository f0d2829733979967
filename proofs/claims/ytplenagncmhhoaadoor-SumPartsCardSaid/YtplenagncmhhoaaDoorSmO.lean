/- The reader of a report: names' lines both ways; parts in memory while they grow. -/
import Derived.Test.YtplenagncmhhoaaDoorSmN
namespace Go.Proofs.YtplenagncmhhoaaDoor
open Go.RowKit

def stepN (wd : Ln) : List Ln → Option Ln × List Ln
  | [] => (none, [])
  | l :: r => match namedP rdN wd l with
    | none => (none, l :: r)
    | some x => (some x, r)
def gO (o : Option Ln) : ByteArray := match o with
  | none => ⟨#[]⟩
  | some x => ⟨x.toArray⟩
theorem stepN_none {wd l : Ln} {r : List Ln} (h : namedP rdN wd l = none) : stepN wd (l :: r) = (none, l :: r) := by
  show (match namedP rdN wd l with
    | none => (none, l :: r)
    | some x => (some x, r)) = _
  rw [h]
theorem stepN_some {wd l : Ln} {r : List Ln} {x : Ln} (h : namedP rdN wd l = some x) : stepN wd (l :: r) = (some x, r) := by
  show (match namedP rdN wd l with
    | none => (none, l :: r)
    | some x => (some x, r)) = _
  rw [h]
theorem stepN_len (wd : Ln) (ls : List Ln) : oneO (stepN wd ls).1 + (stepN wd ls).2.length = ls.length := by
  cases ls with
  | nil => rfl
  | cons l r =>
    cases h : namedP rdN wd l with
    | none => rw [stepN_none h]; simp [oneO]
    | some x => rw [stepN_some h]; simp [oneO]; omega
theorem stepN_fine {wd : Ln} {ls : List Ln} {t : Ln} {k : Nat} (hf : Fine ls t k) : Fine (stepN wd ls).2 t (k + oneO (stepN wd ls).1) := by
  cases ls with
  | nil => exact hf
  | cons l r =>
    cases h : namedP rdN wd l with
    | none => rw [stepN_none h]; exact hf
    | some x => rw [stepN_some h]; exact hf.tail
theorem namedP_ok {wd l n : Ln} (h : namedP rdN wd l = some n) : okN n = true := by
  unfold namedP at h
  split at h
  · exact (nmOk.only _ _ h).1
  · cases h
theorem stepN_ok {wd : Ln} {ls : List Ln} {n : Ln} (h : (stepN wd ls).1 = some n) : okN n = true := by
  cases ls with
  | nil => cases h
  | cons l r =>
    cases hn : namedP rdN wd l with
    | none => rw [stepN_none hn] at h; cases h
    | some x => rw [stepN_some hn] at h; injection h with h; subst h; exact namedP_ok hn
theorem resP_ok {l : Ln} {r : Ln × Nat} (h : resP rdN l = some r) : okR okN r := by
  unfold resP at h
  split at h
  · cases h
  · rename_i a b _
    split at h
    · cases h
    · rename_i hv
      cases hr : rdN b with
      | none => rw [hr] at h; cases h
      | some n =>
        rw [hr] at h
        simp only [Option.map_some, Option.some.injEq] at h
        subst h
        obtain ⟨h1, h2, _⟩ := vp_only hv
        exact ⟨(nmOk.only _ _ hr).1, h1, h2⟩
theorem ress_ok : ∀ (ls : List Ln) (r : Ln × Nat), r ∈ (ressP rdN ls).1 → okR okN r
  | [], r, h => by cases h
  | l :: ls, r, h => by
    cases hr : resP rdN l with
    | none => rw [ressP_none hr] at h; cases h
    | some x =>
      rw [ressP_some hr] at h
      rcases List.mem_cons.1 h with rfl | h
      · exact resP_ok hr
      · exact ress_ok ls r h
theorem ress_len : ∀ ls : List Ln, (ressP rdN ls).1.length + (ressP rdN ls).2.length = ls.length
  | [] => rfl
  | l :: ls => by
    cases hr : resP rdN l with
    | none => rw [ressP_none hr]; simp
    | some x =>
      rw [ressP_some hr]
      have := ress_len ls
      simp; omega
theorem ress_fine : ∀ (ls : List Ln) (t : Ln) (k : Nat), Fine ls t k → Fine (ressP rdN ls).2 t (k + (ressP rdN ls).1.length)
  | [], t, k, h => h
  | l :: ls, t, k, h => by
    cases hr : resP rdN l with
    | none => rw [ressP_none hr]; exact h
    | some x =>
      rw [ressP_some hr]
      have := ress_fine ls t (k + 1) h.tail
      simp only [List.length_cons]
      rw [show k + ((ressP rdN ls).1.length + 1) = k + 1 + (ressP rdN ls).1.length by omega]
      exact this
theorem named_any {w : World} {rp : Nat} {ls : List Ln} {t : Ln} {k : Nat} (wd : Ln) (h : RdS w rp ls t k) (hf : Fine ls t k) (hg : GlAt w) :
    Calls Tryd.prog 81 #[.pointer (some ⟨rp, 0, none⟩), .string ⟨wd.toArray⟩] w fun e w' => e = .returned (.tuple #[.string (gO (stepN wd ls).1), .bool (stepN wd ls).1.isSome]) ∧ RdS w' rp (stepN wd ls).2 t (k + oneO (stepN wd ls).1) ∧ w.grownBy w' (some rp) := by
  cases ls with
  | nil => exact named_no_any h hf hg.max fun l hl => by cases hl
  | cons l r =>
    cases hr : namedP rdN wd l with
    | none => rw [stepN_none hr]; exact named_no_any h hf hg.max fun x hx => by injection hx with hx; subst hx; exact hr
    | some x => rw [stepN_some hr]; exact named_yes_any h hf hg.max hr
/-- A part as the program holds it. -/
def rB (r : Ln × Nat) : ByteArray × Int := (⟨r.1.toArray⟩, ((r.2 : Nat) : Int))
def pB (p : Pt) : PtB := (⟨p.1.toArray⟩, p.2.map rB)
theorem resB_rB (r : Ln × Nat) : resB (rB r) = r := by
  unfold resB rB lnB
  simp
theorem ptB_pB (p : Pt) : ptB (pB p) = p := by
  unfold ptB pB
  simp only [List.map_map]
  have : (resB ∘ rB) = id := by funext r; exact resB_rB r
  rw [this]
  simp [lnB]
theorem pB_all (ps : List Pt) : (ps.map pB).map ptB = ps := by
  rw [List.map_map]
  have : (ptB ∘ pB) = id := by funext p; exact ptB_pB p
  rw [this]; simp
theorem rightB_of {l : Ln} (h : okN l = true) : rightB (⟨l.toArray⟩ : ByteArray).size = true := by
  rw [size_mk]; exact h
theorem rightPs_pB {ps : List Pt} (h : ∀ p, p ∈ ps → okP okN p) : rightPs (ps.map pB) = true := by
  unfold rightPs
  rw [List.all_eq_true]
  intro x hx
  obtain ⟨p, hp, rfl⟩ := List.mem_map.1 hx
  obtain ⟨h1, h2⟩ := h p hp
  unfold rightPt pB
  simp only [Bool.and_eq_true]
  refine ⟨?_, rightB_of h1⟩
  unfold rightRs
  rw [List.all_eq_true]
  intro y hy
  obtain ⟨r, hr, rfl⟩ := List.mem_map.1 hy
  obtain ⟨g1, g2, g3⟩ := h2 r hr
  unfold rightR1 rB rightV
  simp only [Bool.and_eq_true, decide_eq_true_eq]
  exact ⟨rightB_of g1, by omega, by omega⟩
theorem small_of {l : Ln} (h : okN l = true) : (⟨l.toArray⟩ : ByteArray).size ≤ maxLen := by
  rw [size_mk]
  have : l.length ≤ 80 := by
    have h' : 1 ≤ l.length ∧ l.length ≤ 80 := by simpa [okN, rightB] using h
    exact h'.2
  unfold maxLen; omega
def partV (p : Pt) (s : Value) : List Value := [.string ⟨p.1.toArray⟩, s]
def partVs : List Pt → List Value → List Value
  | p :: ps, s :: ss => partV p s ++ partVs ps ss
  | _, _ => []
theorem partVs_snoc : ∀ (ps : List Pt) (ss : List Value) (p : Pt) (s : Value), ps.length = ss.length → partVs (ps ++ [p]) (ss ++ [s]) = partVs ps ss ++ partV p s
  | [], [], p, s, _ => by simp [partVs]
  | q :: ps, u :: ss, p, s, h => by
    have ih := partVs_snoc ps ss p s (by simpa using h)
    simp only [List.cons_append, partVs]
    rw [ih]; simp
  | [], _ :: _, _, _, h => by simp at h
  | _ :: _, [], _, _, h => by simp at h
theorem partVs_at : ∀ (ps : List Pt) (ss : List Value) (i : Nat) (p : Pt) (s : Value), ps[i]? = some p → ss[i]? = some s → (partVs ps ss)[i * 2]? = some (.string ⟨p.1.toArray⟩) ∧ (partVs ps ss)[i * 2 + 1]? = some s
  | q :: ps, u :: ss, 0, p, s, hp, hs => by
    simp at hp hs
    subst hp hs
    exact ⟨rfl, rfl⟩
  | q :: ps, u :: ss, i + 1, p, s, hp, hs => by
    have ih := partVs_at ps ss i p s (by simpa using hp) (by simpa using hs)
    have e1 : (i + 1) * 2 = i * 2 + 2 := by omega
    rw [e1]
    simp only [partVs, partV, List.cons_append, List.nil_append]
    exact ⟨by simpa using ih.1, by simpa using ih.2⟩
  | [], _, _, _, _, hp, _ => by simp at hp
  | _ :: _, [], _, _, _, _, hs => by simp at hs
/-- Parts in memory while they grow: their row, and each one's results. -/
structure PLs (w : World) (B : Nat) (v : Value) (ps : List Pt) (ss : List Value) : Prop where
  len : ss.length = ps.length
  row : w.ownsRow B 46 2 v ps.length (partVs ps ss)
  res : ∀ (i : Nat) (p : Pt) (s : Value), ps[i]? = some p → ss[i]? = some s → ResLs w B s p.2
  apart : ∀ s, s ∈ ss → s.ownBlock = none ∨ s.ownBlock ≠ v.ownBlock
  ok : ∀ p, p ∈ ps → okP okN p
theorem infPart : (Tryd.prog.info? 46).map (fun i => (i.zero, i.size, i.bytes)) = some (some (.agg #[.string ByteArray.empty, .slice none 0 0]), 2, 40) := by kernel_rfl
theorem PLs.none (w : World) (B : Nat) : PLs w B (.slice Option.none 0 0) [] [] :=
  ⟨rfl, ⟨rfl, Or.inl ⟨rfl, rfl⟩⟩, fun i p s h _ => (by simp at h), fun s h => (by cases h), fun p h => (by cases h)⟩
theorem PLs.form {w : World} {B : Nat} {v : Value} {ps : List Pt} {ss : List Value} (h : PLs w B v ps ss) : ∃ ao cap, v = .slice ao ps.length cap := by
  rcases h.row.2 with ⟨rfl, h0⟩ | ⟨g, cap, cur, rfl, _⟩
  · exact ⟨Option.none, 0, by rw [h0]⟩
  · exact ⟨_, _, rfl⟩
theorem PLs.grown {w w' : World} {B : Nat} {v : Value} {ps : List Pt} {ss : List Value} {r : Option Nat} (h : PLs w B v ps ss) (hg : w.grownBy w' r) (hr : ∀ j, r = some j → j < B) : PLs w' B v ps ss :=
  ⟨h.len, own_grown h.row hg hr, fun i p s hp hs => own_grown (h.res i p s hp hs) hg hr, h.apart, h.ok⟩
theorem PLs.set_ {w : World} {B : Nat} {v : Value} {ps : List Pt} {ss : List Value} (h : PLs w B v ps ss) {p : Addr} (hp : p.block < B) (u : Value) : PLs (w.setCell p u) B v ps ss := by
  refine ⟨h.len, own_set h.row (fun e => by have := (World.ownsRow.lt h.row _ e).1; omega) u, fun i q s hq hs => own_set (h.res i q s hq hs) (fun e => by have := (World.ownsRow.lt (h.res i q s hq hs) _ e).1; omega) u, h.apart, h.ok⟩
theorem ResLs.at {w : World} {B : Nat} {v : Value} {rs : List (Ln × Nat)} (h : ResLs w B v rs) (hok : ∀ r, r ∈ rs → okR okN r) (hn : rs.length ≤ 140737488355328) : ∃ RA rn rc, v = .slice RA rn rc ∧ ResAt w RA rn (rs.map rB) := by
  obtain ⟨ao, cap, rfl⟩ := h.form
  refine ⟨ao, _, cap, rfl, by simp, hn, fun r hr => ?_, fun h0 => ?_⟩
  · obtain ⟨x, hx, rfl⟩ := List.mem_map.1 hr
    exact small_of (hok x hx).1
  · obtain ⟨g, cap', e, _, hg⟩ := World.ownsRow.form (show w.ownsRow _ _ _ _ _ _ from h) h0
    injection e with e1 e2 e3
    subst e1 e3
    refine ⟨g, 0, rfl, hg, fun i r hi => ?_⟩
    rw [List.getElem?_map] at hi
    cases hx : rs[i]? with
    | none => rw [hx] at hi; cases hi
    | some x =>
      rw [hx] at hi
      simp only [Option.map_some, Option.some.injEq] at hi
      subst hi
      have hlt : i < rs.length := (List.getElem?_eq_some_iff.1 hx).1
      have at2 : ∀ (rs : List (Ln × Nat)) (i : Nat) (x : Ln × Nat), rs[i]? = some x → (resVs rs)[i * 2]? = some (.string ⟨x.1.toArray⟩) ∧ (resVs rs)[i * 2 + 1]? = some (.int .i64 (x.2 : Nat)) := by
        intro rs
        induction rs with
        | nil => intro i x h; simp at h
        | cons y rs ih =>
          intro i x h
          cases i with
          | zero => simp at h; subst h; exact ⟨rfl, rfl⟩
          | succ i =>
            have := ih i x (by simpa using h)
            have e1 : (i + 1) * 2 = i * 2 + 2 := by omega
            rw [e1]
            have e2 : resVs (y :: rs) = .string ⟨y.1.toArray⟩ :: .int .i64 (y.2 : Nat) :: resVs rs := by simp [resVs, resV]
            rw [e2]
            exact ⟨by simpa using this.1, by simpa using this.2⟩
      obtain ⟨a1, a2⟩ := at2 rs i x hx
      exact ⟨by rw [Nat.zero_add]; exact (World.ownsRow.cellAt h (i * 2) (by omega)).trans a1, by rw [Nat.zero_add]; exact (World.ownsRow.cellAt h (i * 2 + 1) (by omega)).trans a2⟩
theorem sum_mem : ∀ {ps : List Pt} (x : Pt), x ∈ ps → x.2.length ≤ (ps.map fun p => p.2.length).sum
  | [], x, h => by cases h
  | q :: ps, x, h => by
    simp only [List.map_cons, List.sum_cons]
    rcases List.mem_cons.1 h with rfl | h
    · omega
    · have := sum_mem x h
      omega
theorem PLs.parts {w : World} {B : Nat} {ao : Option Addr} {n cap : Nat} {ps : List Pt} {ss : List Value} (h : PLs w B (.slice ao n cap) ps ss) (hn : ps.length ≤ 1000000) (hs : (ps.map fun p => p.2.length).sum ≤ 1000000) : PartsAt w ao n (ps.map pB) := by
  have hnl : n = ps.length := by
    obtain ⟨_, _, e⟩ := h.form
    injection e
  subst hnl
  refine ⟨by simp, by omega, fun p hp => ?_, fun h0 => ?_⟩
  · obtain ⟨x, hx, rfl⟩ := List.mem_map.1 hp
    exact small_of (h.ok x hx).1
  · obtain ⟨g, cap', e, _, hg⟩ := World.ownsRow.form h.row h0
    injection e with e1 e2 e3
    subst e1 e3
    refine ⟨g, 0, rfl, hg, fun i p hi => ?_⟩
    rw [List.getElem?_map] at hi
    cases hx : ps[i]? with
    | none => rw [hx] at hi; cases hi
    | some x =>
      rw [hx] at hi
      simp only [Option.map_some, Option.some.injEq] at hi
      subst hi
      have hlt : i < ps.length := (List.getElem?_eq_some_iff.1 hx).1
      obtain ⟨s, hsi⟩ : ∃ s, ss[i]? = some s := ⟨ss[i]'(by rw [h.len]; exact hlt), List.getElem?_eq_getElem _⟩
      have hmem : x ∈ ps := List.mem_of_getElem? hx
      have hle : x.2.length ≤ (ps.map fun p => p.2.length).sum := sum_mem x hmem
      obtain ⟨RA, rn, rc, rfl, hres⟩ := ResLs.at (h.res i x s hx hsi) (h.ok x hmem).2 (by omega)
      obtain ⟨a1, a2⟩ := partVs_at ps ss i x _ hx hsi
      exact ⟨RA, rn, rc, by rw [Nat.zero_add]; exact (World.ownsRow.cellAt h.row (i * 2) (by omega)).trans a1, by rw [Nat.zero_add]; exact (World.ownsRow.cellAt h.row (i * 2 + 1) (by omega)).trans a2, hres⟩
end Go.Proofs.YtplenagncmhhoaaDoor
