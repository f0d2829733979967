/- Plain facts: a report in memory, as bytes, held against the report in plain words. No program. sum.tail. -/
import Derived.Test.YtplenagncmhhoaaDoorSmE
import Derived.Test.YtplenagncmhhoaaDoorShelf
import Derived.Deep.RegionHeld3
import Derived.Deep.AppendLies
namespace Go.Proofs.YtplenagncmhhoaaDoor

def lnB (b : ByteArray) : Ln := b.data.toList
def resB (r : ByteArray × Int) : Ln × Nat := (lnB r.1, r.2.toNat)
def ptB (p : PtB) : Pt := (lnB p.1, p.2.map resB)
def smB (su bo : ByteArray) (ps : List PtB) : Sm := ⟨lnB su, lnB bo, ps.map ptB⟩
theorem okN_lnB (b : ByteArray) : okN (lnB b) = rightB b.size := by
  unfold okN lnB
  rw [Array.length_toList]; rfl
theorem wordT_wd (v : Int) (h : rightV v = true) : lnB (wordT v) = wd v.toNat := by
  have h' : 1 ≤ v ∧ v ≤ 7 := by simpa [rightV] using h
  rcases (by omega : v = 1 ∨ v = 2 ∨ v = 3 ∨ v = 4 ∨ v = 5 ∨ v = 6 ∨ v = 7) with rfl | rfl | rfl | rfl | rfl | rfl | rfl <;> rfl
theorem okR_of {r : ByteArray × Int} (h : rightR1 r = true) : okR okN (resB r) := by
  have h' : rightB r.1.size = true ∧ rightV r.2 = true := by simpa [rightR1] using h
  have h2 : 1 ≤ r.2 ∧ r.2 ≤ 7 := by simpa [rightV] using h'.2
  refine ⟨by rw [show (resB r).1 = lnB r.1 from rfl, okN_lnB]; exact h'.1, ?_, ?_⟩
  · show 1 ≤ r.2.toNat
    omega
  · show r.2.toNat ≤ 7
    omega
theorem okP_of {p : PtB} (h : rightPt p = true) : okP okN (ptB p) := by
  have h' : rightRs p.2 = true ∧ rightB p.1.size = true := by simpa [rightPt] using h
  refine ⟨by rw [show (ptB p).1 = lnB p.1 from rfl, okN_lnB]; exact h'.2, fun r hr => ?_⟩
  obtain ⟨q, hq, rfl⟩ := List.mem_map.1 (show r ∈ p.2.map resB from hr)
  exact okR_of (List.all_eq_true.1 h'.1 q hq)
/-- What the code calls right is what the plain words ask. -/
theorem okS_of {su bo : ByteArray} {ps : List PtB} (h : rightS su bo ps = true) : okS okN (smB su bo ps) := by
  have h' : (rightB su.size = true ∧ rightB bo.size = true) ∧ rightPs ps = true := by simpa [rightS] using h
  refine ⟨by rw [show (smB su bo ps).suite = lnB su from rfl, okN_lnB]; exact h'.1.1, by rw [show (smB su bo ps).board = lnB bo from rfl, okN_lnB]; exact h'.1.2, fun p hp => ?_⟩
  obtain ⟨q, hq, rfl⟩ := List.mem_map.1 (show p ∈ ps.map ptB from hp)
  exact okP_of (List.all_eq_true.1 h'.2 q hq)
theorem cntL_resB (v : Nat) (hv : 1 ≤ v) (h7 : v ≤ 7) : ∀ rs : Rs, cntL (rs.map (·.2)) (v : Nat) = ((rs.map resB).filter fun r => r.2 == v).length
  | [] => rfl
  | r :: rs => by
    have ih := cntL_resB v hv h7 rs
    unfold cntL at ih ⊢
    simp only [List.map_cons, List.filter_cons]
    have hc : cntB (v : Nat) r.2 = ((resB r).2 == v) := by
      unfold cntB resB
      rw [Bool.eq_iff_iff]
      simp
      omega
    rw [hc]
    cases (resB r).2 == v with
    | true => simpa using ih
    | false => simpa using ih
/-- The code's totals are the plain words' counts. -/
theorem totV_cnt (v : Nat) (hv : 1 ≤ v) (h7 : v ≤ 7) : ∀ ps : List PtB, totV ps (v : Nat) = cnt (ps.map ptB) v
  | [] => rfl
  | p :: ps => by
    have ih := totV_cnt v hv h7 ps
    unfold totV cnt at ih ⊢
    simp only [List.map_cons, List.sum_cons]
    rw [ih, cntL_resB v hv h7]
    rfl
end Go.Proofs.YtplenagncmhhoaaDoor
namespace Go.Proofs.YtplenagncmhhoaaDoor
open Go.RowKit

/-- The table by which a number is written. -/
def Pow (w : World) : Prop := Lib.TabIs Tryd.prog w "internal/strconv.uint64pow10" .u64 Lib.pow10Tab
theorem Pow.below {w w' : World} (h : Pow w) (hb : Below w.heap.size w w') : Pow w' := by
  unfold Pow Lib.TabIs World.var? at h ⊢
  generalize Tryd.prog.globalNamed "internal/strconv.uint64pow10" = gn at h ⊢
  cases gn with
  | none => cases h
  | some g =>
    simp only [Option.bind_some] at h ⊢
    have hlt : g < w.heap.size := by
      rcases Nat.lt_or_ge g w.heap.size with h' | h'
      · exact h'
      · rw [Array.getElem?_eq_none h'] at h; cases h
    rw [hb.block g hlt]
    exact h
theorem below_new (w : World) (k : Nat) (os : Array Obj) : Below w.heap.size w (Sort.grow (w.drewN k) os) :=
  ⟨rfl, rfl, rfl, by simp [Sort.grow], fun b hb => Array.getElem?_append_left hb⟩
theorem itoa_any {w : World} (h : Pow w) (n : Nat) (hn : n ≤ 1000000) : Calls Tryd.prog 76 #[.int .i64 (n : Nat)] w fun e w' => e = .returned (.string ⟨(dgN n).toArray⟩) ∧ Below w.heap.size w w' := by
  refine (Tryd.strconv_Itoa (n : Int) (by omega) (by omega) w h).mono ?_
  rintro e w' ⟨rfl, k, os, rfl⟩
  refine ⟨?_, below_new w k os⟩
  have : Lib.itoa (n : Int) = dgN n := by
    unfold Lib.itoa dgN
    rw [if_neg (by omega), Int.toNat_natCast]
  rw [this]
theorem infS : (Tryd.prog.info? 9).map (fun i => (i.zero, i.size, i.bytes)) = some (some (.string ByteArray.empty), 1, 16) := by kernel_rfl
def lineV (l : Ln) : Value := .string ⟨l.toArray⟩
def LinesAt (w : World) (B : Nat) (v : Value) (ls : List Ln) : Prop := w.ownsRow B 9 1 v ls.length (ls.map lineV)
theorem LinesAt.below {B : Nat} {v : Value} {ls : List Ln} {w w' : World} (h : LinesAt w B v ls) (hb : Below w.heap.size w w') : LinesAt w' B v ls := by
  refine ⟨h.1, ?_⟩
  rcases h.2 with h | ⟨g, cap, cur, hv, h1, h2, h3⟩
  · exact Or.inl h
  · have hg : g < w.heap.size := (Array.getElem?_eq_some_iff.1 h2).1
    exact Or.inr ⟨g, cap, cur, hv, h1, by rw [hb.block g hg]; exact h2, h3⟩
theorem LinesAt.none (w : World) (B : Nat) : LinesAt w B (.slice none 0 0) [] := ⟨rfl, Or.inl ⟨rfl, rfl⟩⟩
theorem LinesAt.snoc {B : Nat} {v : Value} {ls : List Ln} {l : Ln} {w : World} (h : w.ownsRow B 9 1 v (ls.length + 1) (ls.map lineV ++ [lineV l])) : LinesAt w B v (ls ++ [l]) := by
  unfold LinesAt
  rw [List.length_append, List.map_append]
  exact h
theorem LinesAt.form {B : Nat} {v : Value} {ls : List Ln} {w : World} (h : LinesAt w B v ls) : ∃ ao cap, v = .slice ao ls.length cap := by
  rcases h.2 with ⟨rfl, h0⟩ | ⟨g, cap, cur, rfl, _⟩
  · exact ⟨Option.none, 0, by rw [h0]⟩
  · exact ⟨_, _, rfl⟩
theorem str_app (a b : Ln) : (⟨a.toArray⟩ ++ ⟨b.toArray⟩ : ByteArray) = ⟨(a ++ b).toArray⟩ := by
  apply ByteArray.ext
  rw [ByteArray.data_append]; simp
/-- The lines of the first k verdicts that some result has. -/
def cntLs (ps : List Pt) : Nat → List Ln
  | 0 => []
  | k + 1 => cntLs ps k ++ (if k = 0 then [] else cntV dgN ps k)
theorem tailL_cntLs (ps : List Pt) : tailL dgN ps = cntLs ps 8 ++ [endW] := by
  unfold tailL
  simp [cntLs, List.append_assoc]
theorem totV_zero : ∀ {ps : List PtB}, rightPs ps = true → totV ps 0 = 0
  | [], _ => rfl
  | p :: ps, h => by
    have h' : rightPt p = true ∧ rightPs ps = true := by simpa [rightPs] using h
    have hr : rightRs p.2 = true := by have := h'.1; simp [rightPt] at this; exact this.1
    have ih := totV_zero h'.2
    unfold totV at ih ⊢
    simp only [List.map_cons, List.sum_cons]
    have h0 : cntL (p.2.map (·.2)) 0 = 0 := by
      unfold cntL
      rw [List.length_eq_zero_iff, List.filter_eq_nil_iff]
      intro x hx
      obtain ⟨r, hr1, rfl⟩ := List.mem_map.1 hx
      have hq := List.all_eq_true.1 hr r hr1
      have hq2 : 1 ≤ r.2 ∧ r.2 ≤ 7 := by
        have : rightB r.1.size = true ∧ rightV r.2 = true := by simpa [rightR1] using hq
        simpa [rightV] using this.2
      simp [cntB]
      omega
    rw [h0, ih]
end Go.Proofs.YtplenagncmhhoaaDoor
