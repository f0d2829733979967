/- What comes by a tick, in plain words: small paces of time are as one. -/
import Derived.Test.YtmcapiikplflkaaNg
namespace Go.Proofs.Ytmcapiikplflkaa
open Go.RowKit Go.Maps

abbrev Cks := List (Int × List UInt8)
/-- Nothing that comes next lies behind the time. -/
def Due (s : Ls) : Prop := match s.ds with | d :: _ => s.now ≤ s.last + tk d.1 | [] => (s.fin = 1 ∨ s.fin = 2) → s.now ≤ s.last + tk s.wait
/-- All that comes by a tick, and what is left. -/
def drain (M : Int) : Cks → Int → List UInt8 × Cks
  | [], _ => ([], [])
  | d :: r, last => if M < last + tk d.1 then ([], d :: r) else (d.2 ++ (drain M r (last + tk d.1)).1, (drain M r (last + tk d.1)).2)
def SmallB (B : Nat) (s : Ls) : Prop := ∀ d ∈ s.ds, d.2.length ≤ B
/-- What one Next does, by any tick. -/
structure Pace (s : Ls) (n M : Int) (B : Nat) (r : Int × List UInt8 × Ls) : Prop where
  due : Due r.2.2
  small : SmallB B r.2.2
  now0 : s.now ≤ r.2.2.now
  now1 : r.2.2.now ≤ max n s.now
  late : r.1 = 4 → r.2.2.now = max n s.now
  got : r.2.1 ++ (drain M r.2.2.ds r.2.2.last).1 = (drain M s.ds s.last).1
  left : (drain M r.2.2.ds r.2.2.last).2 = (drain M s.ds s.last).2
  one : r.1 = 1 → r.2.2.ds.length + 1 = s.ds.length
  len : r.2.2.ds.length ≤ s.ds.length
  bytes : r.2.1.length ≤ B
  none_ : r.1 ≠ 1 → r.2.1 = [] ∧ r.2.2.ds = s.ds ∧ r.2.2.last = s.last ∧ (M ≤ max n s.now → drain M s.ds s.last = ([], s.ds))
theorem pace (s : Ls) (n M : Int) (B : Nat) (hd : Due s) (hs : SmallB B s) (hM : max n s.now ≤ M) : Pace s n M B (nextS s n) := by
  obtain ⟨ds, fin, wait, last, now, sent⟩ := s
  unfold nextS
  unfold Due at hd
  cases ds with
  | nil =>
    simp only at hd hM ⊢
    by_cases h1 : fin = 1 ∨ fin = 2
    · have hd := hd h1
      have ht := tk_bd wait
      simp only [if_pos h1]
      by_cases h2 : max n now < last + tk wait
      · simp only [if_pos h2]
        exact ⟨fun _ => by show max n now ≤ last + tk wait; omega, hs, by show now ≤ max n now; omega, Int.le_refl _, fun _ => rfl, rfl, rfl, (fun h => by simp at h), Nat.le_refl _, by simp, fun _ => ⟨rfl, rfl, rfl, fun _ => rfl⟩⟩
      · simp only [if_neg h2]
        have hf4 : fin + 1 ≠ 1 := by omega
        exact ⟨fun _ => Int.le_refl _, hs, hd, by show last + tk wait ≤ max n now; omega, (fun h => by simp only at h; omega), rfl, rfl, (fun h => absurd h hf4), Nat.le_refl _, by simp, fun _ => ⟨rfl, rfl, rfl, fun _ => rfl⟩⟩
    · simp only [if_neg h1]
      exact ⟨fun h => absurd h h1, hs, by show now ≤ max n now; omega, Int.le_refl _, fun _ => rfl, rfl, rfl, (fun h => by simp at h), Nat.le_refl _, by simp, fun _ => ⟨rfl, rfl, rfl, fun _ => rfl⟩⟩
  | cons d r =>
    simp only at hd hM ⊢
    have ht := tk_bd d.1
    by_cases h2 : max n now < last + tk d.1
    · simp only [if_pos h2]
      exact ⟨by show max n now ≤ last + tk d.1; omega, hs, by show now ≤ max n now; omega, Int.le_refl _, fun _ => rfl, rfl, rfl, (fun h => by simp at h), Nat.le_refl _, by simp, fun _ => ⟨rfl, rfl, rfl, fun hm => by
        show drain M (d :: r) last = ([], d :: r)
        unfold drain
        rw [if_pos (by simp only at hm; omega)]⟩⟩
    · simp only [if_neg h2]
      have hdr : drain M (d :: r) last = (d.2 ++ (drain M r (last + tk d.1)).1, (drain M r (last + tk d.1)).2) := by
        show (if M < last + tk d.1 then _ else _) = _
        rw [if_neg (by omega)]
      refine ⟨?_, fun x hx => hs x (List.mem_cons_of_mem _ hx), hd, by show last + tk d.1 ≤ max n now; omega, (fun h => by simp at h), by simp only; rw [hdr], by simp only; rw [hdr], fun _ => rfl, by simp, hs d (List.mem_cons_self ..), fun h => absurd rfl h⟩
      unfold Due
      cases r with
      | nil =>
        intro _
        have := tk_bd wait
        show last + tk d.1 ≤ last + tk d.1 + tk wait
        omega
      | cons d2 r2 =>
        have := tk_bd d2.1
        show last + tk d.1 ≤ last + tk d.1 + tk d2.1
        omega
end Go.Proofs.Ytmcapiikplflkaa
