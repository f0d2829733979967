/- Plain facts for sum.Text: its lines joined; how long they are. No program. -/
import Derived.Test.YtplenagncmhhoaaDoorSmH
import Derived.Lib.Join
namespace Go.Proofs.YtplenagncmhhoaaDoor

theorem join_flat : ∀ (x : Ln) (r : List Ln), Lib.join (x :: r) [10] ++ [10] = flat (x :: r)
  | x, [] => by rw [Lib.join_one]; simp [flat]
  | x, y :: r => by
    have ih := join_flat y r
    have h : Lib.join (x :: y :: r) [10] = x ++ 10 :: Lib.join (y :: r) [10] := by
      unfold Lib.join
      simp [List.intercalate, List.intersperse]
    rw [h]
    have : flat (x :: y :: r) = x ++ 10 :: flat (y :: r) := by simp [flat]
    rw [this, ← ih]
    simp
theorem flat_bound (c : Nat) : ∀ ls : List Ln, (∀ l, l ∈ ls → l.length ≤ c) → (flat ls).length ≤ ls.length * (c + 1)
  | [], _ => by simp [flat]
  | l :: ls, h => by
    have ih := flat_bound c ls fun x hx => h x (List.mem_cons_of_mem _ hx)
    have h1 := h l (List.mem_cons_self ..)
    have : flat (l :: ls) = l ++ 10 :: flat ls := by simp [flat]
    rw [this, List.length_append, List.length_cons, List.length_cons, Nat.add_mul]
    omega
theorem wrN_len {l : Ln} (h : okN l = true) : (wrN l).length ≤ 240 := writeL_len _ (by simpa [okN, ByteArray.size] using h)
theorem parts_lines : ∀ ps : List Pt, (partsL wrN ps).length = ps.length + (ps.map fun p => p.2.length).sum
  | [] => rfl
  | p :: ps => by
    have ih := parts_lines ps
    have : partsL wrN (p :: ps) = partL wrN p ++ partsL wrN ps := by simp [partsL]
    rw [this, List.length_append, ih]
    simp [partL]
    omega
theorem tail_len (ps : List Pt) : (tailL dgN ps).length ≤ 9 := by
  rw [tailL_cntLs, List.length_append]
  have := cntLs_len ps 8
  simp; omega
theorem cnt_leP (ps : List Pt) (v : Nat) : cnt ps v ≤ (ps.map fun p => p.2.length).sum := by
  unfold cnt
  induction ps with
  | nil => exact Nat.le_refl _
  | cons p ps ih =>
    simp only [List.map_cons, List.sum_cons]
    exact Nat.add_le_add (List.length_filter_le _ _) ih
theorem cntLs_short (ps : List Pt) : ∀ k l, l ∈ cntLs ps k → l.length ≤ 20 + (ps.map fun p => p.2.length).sum
  | 0, l, h => by cases h
  | k + 1, l, h => by
    simp only [cntLs, List.mem_append] at h
    rcases h with h | h
    · exact cntLs_short ps k l h
    · split at h
      · cases h
      · unfold cntV at h
        split at h
        · cases h
        · simp only [List.mem_cons, List.not_mem_nil, or_false] at h
          subst h
          have h1 := wd_len k
          have h2 := dg_len _ (cnt ps k) (Nat.le_refl _)
          have h3 := cnt_leP ps k
          simp only [List.length_cons, List.length_append]
          omega
/-- No line of a report is longer than this. -/
theorem line_short {s : Sm} (hs : okS okN s) : ∀ l, l ∈ sumL wrN dgN s → l.length ≤ 260 + (s.parts.map fun p => p.2.length).sum := by
  intro l h
  simp only [sumL, List.mem_cons, List.mem_append] at h
  rcases h with rfl | rfl | h | h
  · have := wrN_len hs.1
    simp [sw]; omega
  · have := wrN_len hs.2.1
    simp [bw]; omega
  · unfold partsL at h
    obtain ⟨q, hq, hl⟩ := List.mem_flatten.1 h
    obtain ⟨p, hp, rfl⟩ := List.mem_map.1 hq
    have hk := hs.2.2 p hp
    rcases List.mem_cons.1 hl with rfl | hl
    · have := wrN_len hk.1
      simp [gw]; omega
    · obtain ⟨r, hr, rfl⟩ := List.mem_map.1 hl
      have h1 := wrN_len (hk.2 r hr).1
      have h2 := wd_len r.2
      simp [resL]; omega
  · rw [tailL_cntLs] at h
    rcases List.mem_append.1 h with h | h
    · have := cntLs_short s.parts 8 l h
      omega
    · simp only [List.mem_cons, List.not_mem_nil, or_false] at h
      subst h
      simp [endW]; omega
theorem sumL_len (s : Sm) : (sumL wrN dgN s).length ≤ 11 + s.parts.length + (s.parts.map fun p => p.2.length).sum := by
  have h1 := tail_len s.parts
  have h2 := parts_lines s.parts
  simp only [sumL, List.length_cons, List.length_append]
  omega
/-- A report of few parts and results is no longer than a text may be. -/
theorem text_short {s : Sm} (hs : okS okN s) (h1 : s.parts.length ≤ 1000000) (h2 : (s.parts.map fun p => p.2.length).sum ≤ 1000000) : (textB s).length ≤ 140737488355328 := by
  have h3 := flat_bound _ _ (line_short hs)
  have h4 := sumL_len s
  have h5 : (sumL wrN dgN s).length * (260 + (s.parts.map fun p => p.2.length).sum + 1) ≤ 2000011 * 1000261 := Nat.mul_le_mul (by omega) (by omega)
  unfold textB
  omega
end Go.Proofs.YtplenagncmhhoaaDoor
