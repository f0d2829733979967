/- Plain facts: a report in memory, as bytes, held against the report in plain words. No program. -/
import Derived.Test.YtplenagncmhhoaaDoorSmE
namespace Go.Proofs.YtplenagncmhhoaaDoor

def lnB (b : ByteArray) : Ln := b.data.toList
def resB (r : ByteArray × Int) : Ln × Nat := (lnB r.1, r.2.toNat)
def ptB (p : PtB) : Pt := (lnB p.1, p.2.map resB)
def smB (su bo : ByteArray) (ps : List PtB) : Sm := ⟨lnB su, lnB bo, ps.map ptB⟩
theorem okN_lnB (b : ByteArray) : okN (lnB b) = rightB b.size := by
  unfold okN lnB
  rw [Array.length_toList]; rfl
theorem wordT_wd (v : Int) (h : rightV v = true) : lnB (wordT v) = wd v.toNat := by
  have h' : 1 ≤ v ∧ v ≤ 7 := by simpa [rightV] using h
  rcases (by omega : v = 1 ∨ v = 2 ∨ v = 3 ∨ v = 4 ∨ v = 5 ∨ v = 6 ∨ v = 7) with rfl | rfl | rfl | rfl | rfl | rfl | rfl <;> rfl
theorem okR_of {r : ByteArray × Int} (h : rightR1 r = true) : okR okN (resB r) := by
  have h' : rightB r.1.size = true ∧ rightV r.2 = true := by simpa [rightR1] using h
  have h2 : 1 ≤ r.2 ∧ r.2 ≤ 7 := by simpa [rightV] using h'.2
  refine ⟨by rw [show (resB r).1 = lnB r.1 from rfl, okN_lnB]; exact h'.1, ?_, ?_⟩
  · show 1 ≤ r.2.toNat
    omega
  · show r.2.toNat ≤ 7
    omega
theorem okP_of {p : PtB} (h : rightPt p = true) : okP okN (ptB p) := by
  have h' : rightRs p.2 = true ∧ rightB p.1.size = true := by simpa [rightPt] using h
  refine ⟨by rw [show (ptB p).1 = lnB p.1 from rfl, okN_lnB]; exact h'.2, fun r hr => ?_⟩
  obtain ⟨q, hq, rfl⟩ := List.mem_map.1 (show r ∈ p.2.map resB from hr)
  exact okR_of (List.all_eq_true.1 h'.1 q hq)
/-- What the code calls right is what the plain words ask. -/
theorem okS_of {su bo : ByteArray} {ps : List PtB} (h : rightS su bo ps = true) : okS okN (smB su bo ps) := by
  have h' : (rightB su.size = true ∧ rightB bo.size = true) ∧ rightPs ps = true := by simpa [rightS] using h
  refine ⟨by rw [show (smB su bo ps).suite = lnB su from rfl, okN_lnB]; exact h'.1.1, by rw [show (smB su bo ps).board = lnB bo from rfl, okN_lnB]; exact h'.1.2, fun p hp => ?_⟩
  obtain ⟨q, hq, rfl⟩ := List.mem_map.1 (show p ∈ ps.map ptB from hp)
  exact okP_of (List.all_eq_true.1 h'.2 q hq)
theorem cntL_resB (v : Nat) (hv : 1 ≤ v) (h7 : v ≤ 7) : ∀ rs : Rs, cntL (rs.map (·.2)) (v : Nat) = ((rs.map resB).filter fun r => r.2 == v).length
  | [] => rfl
  | r :: rs => by
    have ih := cntL_resB v hv h7 rs
    unfold cntL at ih ⊢
    simp only [List.map_cons, List.filter_cons]
    have hc : cntB (v : Nat) r.2 = ((resB r).2 == v) := by
      unfold cntB resB
      rw [Bool.eq_iff_iff]
      simp
      omega
    rw [hc]
    cases (resB r).2 == v with
    | true => simpa using ih
    | false => simpa using ih
/-- The code's totals are the plain words' counts. -/
theorem totV_cnt (v : Nat) (hv : 1 ≤ v) (h7 : v ≤ 7) : ∀ ps : List PtB, totV ps (v : Nat) = cnt (ps.map ptB) v
  | [] => rfl
  | p :: ps => by
    have ih := totV_cnt v hv h7 ps
    unfold totV cnt at ih ⊢
    simp only [List.map_cons, List.sum_cons]
    rw [ih, cntL_resB v hv h7]
    rfl
end Go.Proofs.YtplenagncmhhoaaDoor
