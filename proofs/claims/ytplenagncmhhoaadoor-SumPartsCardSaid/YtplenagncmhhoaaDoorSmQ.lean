/- The reader of a report: sum's walk. -/
import Derived.Test.YtplenagncmhhoaaDoorSmP
namespace Go.Proofs.YtplenagncmhhoaaDoor
open Go.RowKit

def atOf (rp : Nat) (w : World) : Nat := match w.cell? ⟨rp, 1, none⟩ with
  | some v => (intOf v).toNat
  | none => 0
theorem atOf_rd {w : World} {rp : Nat} {ls : List Ln} {t : Ln} {k : Nat} (h : RdS w rp ls t k) : atOf rp w = k := by
  obtain ⟨_, h1, _, _⟩ := blk2 h
  unfold atOf
  rw [h1]
  simp [intOf]
def boolN (v : Value) : Nat := match v with
  | .bool true => 1
  | _ => 0
theorem Blk.set3 {W : World} {sb : Nat} {ty : TypeId} {x y z : Value} (a b c : Value) (Z : Blk W sb ty #[x, y, z]) : Blk (((W.setCell ⟨sb, 0, none⟩ a).setCell ⟨sb, 1, none⟩ b).setCell ⟨sb, 2, none⟩ c) sb ty #[a, b, c] := ((Z.set_ 0 a).set_ 1 b).set_ 2 c
theorem RdS.set3 {W : World} {sb rp : Nat} {ls : List Ln} {t : Ln} {k : Nat} (a b c : Value) (h : RdS W rp ls t k) (hne : rp ≠ sb) : RdS (((W.setCell ⟨sb, 0, none⟩ a).setCell ⟨sb, 1, none⟩ b).setCell ⟨sb, 2, none⟩ c) rp ls t k :=
  Blk.far (Blk.far (Blk.far h (p := ⟨sb, 0, none⟩) hne a) (p := ⟨sb, 1, none⟩) hne b) (p := ⟨sb, 2, none⟩) hne c
theorem gb_set3 {w W : World} {sb rp : Nat} (a b c : Value) (h : w.grownBy W (some rp)) (hs : w.heap.size ≤ sb) : w.grownBy (((W.setCell ⟨sb, 0, none⟩ a).setCell ⟨sb, 1, none⟩ b).setCell ⟨sb, 2, none⟩ c) (some rp) :=
  gb_set (g := rp) (p := ⟨sb, 2, none⟩) (gb_set (g := rp) (p := ⟨sb, 1, none⟩) (gb_set (g := rp) (p := ⟨sb, 0, none⟩) h (.inr hs) a) (.inr hs) b) (.inr hs) c
theorem pls_set3 {w : World} {B sb : Nat} {v : Value} {ps : List Pt} {ss : List Value} (a b c : Value) (h : PLs w B v ps ss) (hp : sb < B) : PLs (((w.setCell ⟨sb, 0, none⟩ a).setCell ⟨sb, 1, none⟩ b).setCell ⟨sb, 2, none⟩ c) B v ps ss :=
  PLs.set_ (PLs.set_ (PLs.set_ h (p := ⟨sb, 0, none⟩) hp a) (p := ⟨sb, 1, none⟩) hp b) (p := ⟨sb, 2, none⟩) hp c
theorem own_mono {w : World} {B M : Nat} {e : TypeId} {sz : Nat} {v : Value} {n : Nat} {xs : List Value} (h : w.ownsRow M e sz v n xs) (hb : B ≤ M) : w.ownsRow B e sz v n xs := by
  refine ⟨h.1, ?_⟩
  rcases h.2 with h | ⟨g, cap, cur, hv, h1, h2⟩
  · exact .inl h
  · exact .inr ⟨g, cap, cur, hv, Nat.le_trans hb h1, h2⟩
theorem own_agree {w W : World} {B : Nat} {e : TypeId} {sz : Nat} {v : Value} {n : Nat} {xs : List Value} (h : w.ownsRow B e sz v n xs) (ha : ∀ b, B ≤ b → b < w.heap.size → W.heap[b]? = w.heap[b]?) : W.ownsRow B e sz v n xs := by
  refine ⟨h.1, ?_⟩
  rcases h.2 with h | ⟨g, cap, cur, hv, h1, h2, h3⟩
  · exact .inl h
  · exact .inr ⟨g, cap, cur, hv, h1, by rw [ha g h1 (Array.getElem?_eq_some_iff.1 h2).1]; exact h2, h3⟩
theorem pls_agree {w W : World} {B : Nat} {v : Value} {ps : List Pt} {ss : List Value} (h : PLs w B v ps ss) (ha : ∀ b, B ≤ b → b < w.heap.size → W.heap[b]? = w.heap[b]?) : PLs W B v ps ss :=
  ⟨h.len, own_agree h.row ha, fun i p s hp hs => own_agree (h.res i p s hp hs) ha, h.apart, h.ok⟩
theorem pls_drew {w : World} {B : Nat} {v : Value} {ps : List Pt} {ss : List Value} (h : PLs w B v ps ss) : PLs w.drew B v ps ss := ⟨h.len, h.row, h.res, h.apart, h.ok⟩
theorem pls_snoc {w7 w9 : World} {B M gg cap' : Nat} {v s : Value} {acc : List Pt} {ss : List Value} {p : Pt} {o : Obj} (h : PLs w7 B v acc ss) (hv : ∀ j, v.ownBlock = some j → j < M) (hr : ResLs w7 M s p.2) (hBM : B ≤ M) (hok : okP okN p)
    (hgrow : (w7.alloc o).grownBy w9 v.ownBlock) (hown : w9.ownsRow B 46 2 (.slice (some ⟨gg, 0, none⟩) (acc.length + 1) cap') (acc.length + 1) (partVs acc ss ++ [.string ⟨p.1.toArray⟩, s])) (hat : v.ownBlock = some gg ∨ gg = w7.heap.size + 1) :
    PLs w9 B (.slice (some ⟨gg, 0, none⟩) (acc.length + 1) cap') (acc ++ [p]) (ss ++ [s]) := by
  have hs : ∀ j, s.ownBlock = some j → M ≤ j ∧ j < w7.heap.size := World.ownsRow.lt hr
  refine ⟨by simp [h.len], ?_, ?_, ?_, ?_⟩
  · rw [partVs_snoc _ _ _ _ h.len.symm, List.length_append]
    exact hown
  · intro i q u hq hu
    by_cases hi : i < acc.length
    · rw [List.getElem?_append_left hi] at hq
      rw [List.getElem?_append_left (by rw [h.len]; exact hi)] at hu
      refine World.ownsRow.kept (World.ownsRow.alloc (h.res i q u hq hu) o) hgrow ?_
      exact h.apart u (List.mem_of_getElem? hu)
    · have hl : i < (acc ++ [p]).length := (List.getElem?_eq_some_iff.1 hq).1
      have hi' : i = acc.length := by simp at hl; omega
      subst hi'
      rw [List.getElem?_append_right (Nat.le_refl _)] at hq
      rw [List.getElem?_append_right (by rw [h.len]; exact Nat.le_refl _), h.len] at hu
      simp at hq hu
      subst hq hu
      refine World.ownsRow.kept (World.ownsRow.alloc (own_mono hr hBM) o) hgrow ?_
      cases hsb : s.ownBlock with
      | none => exact .inl rfl
      | some j =>
        right
        intro e
        have h1 := (hs j hsb).1
        have h2 := hv j e.symm
        omega
  · intro u hu
    show u.ownBlock = none ∨ u.ownBlock ≠ some gg
    cases hub : u.ownBlock with
    | none => exact .inl rfl
    | some j =>
      right
      intro e
      injection e with e
      subst e
      rcases List.mem_append.1 hu with hu | hu
      · obtain ⟨i, hi⟩ := List.getElem?_of_mem hu
        have hlt : i < acc.length := by rw [← h.len]; exact (List.getElem?_eq_some_iff.1 hi).1
        have hb := World.ownsRow.lt (h.res i _ u (List.getElem?_eq_getElem hlt) hi) j hub
        rcases hat with hat | hat
        · rcases h.apart u hu with h1 | h1
          · rw [hub] at h1; cases h1
          · exact h1 (by rw [hub, hat])
        · omega
      · simp only [List.mem_cons, List.not_mem_nil, or_false] at hu
        subst hu
        have h1 := hs j hub
        rcases hat with hat | hat
        · have := hv j hat
          omega
        · omega
  · intro q hq
    rcases List.mem_append.1 hq with hq | hq
    · exact h.ok q hq
    · simp only [List.mem_cons, List.not_mem_nil, or_false] at hq
      subst hq; exact hok
set_option maxHeartbeats 8000000 in
set_option maxRecDepth 100000 in
theorem sum_any {w : World} {rp : Nat} {ls : List Ln} {t : Ln} (h : RdS w rp ls t 0) (hf : Fine ls t 0) (hg : GlAt w) (hrp : 4 < rp) :
    Calls Tryd.prog 45 #[.pointer (some ⟨rp, 0, none⟩)] w (SumPost w rp ls t) := by
  obtain ⟨i0, hi, hz0, hz1, hz2⟩ := info_parts infPart
  have HG := Lib.hid hg
  have hlt := h.lt
  have hb0 := gb_alloc (gb_refl w (some rp)) (.cells #[.string ⟨#[]⟩, .string ⟨#[]⟩, .slice none 0 0] 24)
  have HG0 := Lib.hid (hg.grown hb0 (fun j hj => by injection hj with hj; omega))
  have HA := Lib.hid (named_any (w := w.alloc (.cells #[.string ⟨#[]⟩, .string ⟨#[]⟩, .slice none 0 0] 24)) sw (Blk.alloc h _) hf HG0.out)
  have HB0 := Lib.hid hb0
  have Z0 := Lib.hid (Blk.new w 24 #[.string ⟨#[]⟩, .string ⟨#[]⟩, .slice none 0 0])
  have HN1 := Lib.hid (fun h => sumP_no1 (ls := ls) (t := t) h)
  have HN2 := Lib.hid (fun su h h2 => sumP_no2 (ls := ls) (t := t) (su := su) h h2)
  have HN3 := Lib.hid (fun su bo h h2 => sumP_on (ls := ls) (t := t) (su := su) (bo := bo) h h2)
  have HO1 := Lib.hid (fun n h => stepN_ok (wd := sw) (ls := ls) (n := n) h)
  have HL1 := Lib.hid (stepN_len sw ls)
  have HF1 := Lib.hid (stepN_fine (wd := sw) hf)
  obtain ⟨o1, ho1⟩ : ∃ o, o = (stepN sw ls).1 := ⟨_, rfl⟩
  obtain ⟨r0, hr0⟩ : ∃ l, l = (stepN sw ls).2 := ⟨_, rfl⟩
  rw [← ho1, ← hr0] at HA HN1 HL1 HF1
  rw [← ho1, ← hr0] at HN2 HN3
  rw [← ho1] at HO1
  obtain ⟨S1, hS1⟩ : ∃ S, S = gO o1 := ⟨_, rfl⟩
  rw [← hS1] at HA
  have HS1 := Lib.hid hS1
  clear hS1 ho1 hr0 h hg hb0 hf
  go_enter Tryd.func45, Tryd.ntmps45
  go_wp2_with fail
  have HA' := Lib.hid (show Calls Tryd.prog 81 #[.pointer (some ⟨rp, 0, none⟩), .string ⟨#[84, 101, 115, 116, 32, 114, 117, 110, 32, 111, 102, 32]⟩] _ _ from HA.out)
  refine HA'.out.mono ?_
  rintro e w1 ⟨rfl, r1, g1⟩
  have R1 := Lib.hid r1
  have G1 := Lib.hid (gb_trans HB0.out g1)
  have Z1 := Lib.hid (Z0.out.grown g1 (fun e => by injection e with e; omega))
  obtain ⟨_, _, _, f0, f1, f2⟩ := blk3 Z1.out
  have hz1' := Z1.out.lt
  clear r1 g1
  cases o1 with
  | none =>
    obtain ⟨hs0, hs1⟩ := HN1.out rfl
    have HS0 := Lib.hid hs0
    clear hs0
    obtain ⟨z0, z1, z2, _, _, _⟩ := blk3 Z1.out
    go_wp2
    have Z2 := Blk.set3 (.string S1) (.string ⟨#[]⟩) (.slice none 0 0) (Z1.out.set_ 0 (.string S1))
    obtain ⟨c0, c1, c2, _, _, _⟩ := blk3 Z2
    exact bodyPost_ret (v := .tuple #[.agg #[.string S1, .string ⟨#[]⟩, .slice none 0 0], .bool false]) (by simp [results, Tryd.results45, go_sem, c0, c1, c2]) rfl ⟨S1, ⟨#[]⟩, none, 0, 0, false, r0, 0, rfl,
      RdS.set3 _ _ _ (Blk.far R1.out (p := ⟨w.heap.size, 0, none⟩) (by simp; omega) _) (by omega), gb_set3 _ _ _ (gb_set (g := rp) (p := ⟨w.heap.size, 0, none⟩) G1.out (.inr (Nat.le_refl _)) _) (Nat.le_refl _), fun _ => HS0.out, fun h => by cases h⟩
  | some su =>
    obtain ⟨z0, z1, z2, _, _, _⟩ := blk3 Z1.out
    have Z2 := Lib.hid (Z1.out.set_ 0 (.string S1))
    have R2 := Lib.hid (Blk.far R1.out (p := ⟨w.heap.size, 0, none⟩) (by simp; omega) (.string S1))
    have G2 := Lib.hid (gb_set (g := rp) (p := ⟨w.heap.size, 0, none⟩) G1.out (.inr (Nat.le_refl _)) (.string S1))
    have HG2 := Lib.hid (HG.out.grown G2.out (fun j hj => by injection hj with hj; omega))
    have HB := Lib.hid (named_any (rp := rp) (ls := r0) (t := t) (k := 0 + oneO (some su)) bw R2.out HF1.out HG2.out)
    have HN2' := Lib.hid (HN2.out su rfl)
    have HN3' := Lib.hid (fun bo => HN3.out su bo rfl)
    have HO2 := Lib.hid (fun n h => stepN_ok (wd := bw) (ls := r0) (n := n) h)
    have HL2 := Lib.hid (stepN_len bw r0)
    have HF2 := Lib.hid (stepN_fine (wd := bw) HF1.out)
    have HOS := Lib.hid (HO1.out su rfl)
    obtain ⟨o2, ho2⟩ : ∃ o, o = (stepN bw r0).1 := ⟨_, rfl⟩
    obtain ⟨q1, hq1⟩ : ∃ l, l = (stepN bw r0).2 := ⟨_, rfl⟩
    rw [← ho2] at HB HN2' HN3' HO2 HL2 HF2
    rw [← hq1] at HB HL2 HF2 HN3'
    obtain ⟨S2, hS2⟩ : ∃ S, S = gO o2 := ⟨_, rfl⟩
    rw [← hS2] at HB
    have HS2 := Lib.hid hS2
    clear hS2 ho2 hq1 HN1 HN2 HN3 HO1
    have HB' := Lib.hid (show Calls Tryd.prog 81 #[.pointer (some ⟨rp, 0, none⟩), .string ⟨#[66, 111, 97, 114, 100, 32]⟩] _ _ from HB.out)
    go_wp2_with fail
    refine HB'.out.mono ?_
    rintro e w3 ⟨rfl, r3, g3⟩
    have R3 := Lib.hid r3
    have G3 := Lib.hid (gb_trans G2.out g3)
    have Z3 := Lib.hid (Z2.out.grown g3 (fun e => by injection e with e; omega))
    have Z3' := Lib.hid (show Blk w3 w.heap.size 24 #[.string S1, .string ⟨#[]⟩, .slice none 0 0] from Z3.out)
    obtain ⟨y0, y1, y2, f3, f4, f5⟩ := blk3 Z3'.out
    have hz3' := Z3.out.lt
    clear r3 g3 z0 z1 z2 f0 f1 f2
    cases o2 with
    | none =>
      have HS0 := Lib.hid (HN2'.out rfl)
      go_wp2
      have Z4 := Blk.set3 (.string S1) (.string S2) (.slice none 0 0) (Z3'.out.set_ 1 (.string S2))
      obtain ⟨c0, c1, c2, _, _, _⟩ := blk3 Z4
      exact bodyPost_ret (v := .tuple #[.agg #[.string S1, .string S2, .slice none 0 0], .bool false]) (by simp [results, Tryd.results45, go_sem, c0, c1, c2]) rfl ⟨S1, S2, none, 0, 0, false, q1, 1, rfl,
        RdS.set3 _ _ _ (Blk.far R3.out (p := ⟨w.heap.size, 1, none⟩) (by simp; omega) _) (by omega), gb_set3 _ _ _ (gb_set (g := rp) (p := ⟨w.heap.size, 1, none⟩) G3.out (.inr (Nat.le_refl _)) _) (Nat.le_refl _), fun _ => HS0.out, fun h => by cases h⟩
    | some bo =>
      have HRS := Lib.hid (HN3'.out bo rfl)
      have HOB := Lib.hid (HO2.out bo rfl)
      have Z4 := Lib.hid (Z3'.out.set_ 1 (.string S2))
      have R4 := Lib.hid (Blk.far R3.out (p := ⟨w.heap.size, 1, none⟩) (by simp; omega) (.string S2))
      have G4 := Lib.hid (gb_set (g := rp) (p := ⟨w.heap.size, 1, none⟩) G3.out (.inr (Nat.le_refl _)) (.string S2))
      have HG4 := Lib.hid (HG.out.grown G4.out (fun j hj => by injection hj with hj; omega))
      have HC := Lib.hid (named_any (rp := rp) (ls := q1) (t := t) (k := 0 + oneO (some su) + oneO (some bo)) gw R4.out HF2.out HG4.out)
      have HO3 := Lib.hid (fun n h => stepN_ok (wd := gw) (ls := q1) (n := n) h)
      have HL3 := Lib.hid (stepN_len gw q1)
      have HF3 := Lib.hid (stepN_fine (wd := gw) HF2.out)
      have HP3 := Lib.hid (parts_step q1.length q1)
      obtain ⟨o3, ho3⟩ : ∃ o, o = (stepN gw q1).1 := ⟨_, rfl⟩
      obtain ⟨q2, hq2⟩ : ∃ l, l = (stepN gw q1).2 := ⟨_, rfl⟩
      rw [← ho3] at HC HO3 HL3 HF3 HP3
      rw [← hq2] at HC HL3 HF3 HP3
      obtain ⟨S3, hS3⟩ : ∃ S, S = gO o3 := ⟨_, rfl⟩
      rw [← hS3] at HC
      have HS3 := Lib.hid hS3
      clear hS3 ho3 hq2 HN2' HN3' HO2
      have HC' := Lib.hid (show Calls Tryd.prog 81 #[.pointer (some ⟨rp, 0, none⟩), .string ⟨#[103, 114, 111, 117, 112, 32]⟩] _ _ from HC.out)
      go_wp2_with fail
      refine HC'.out.mono ?_
      rintro e w5 ⟨rfl, r5, g5⟩
      have R5 := Lib.hid r5
      have G5 := Lib.hid (gb_trans G4.out g5)
      have Z5 := Lib.hid (show Blk w5 w.heap.size 24 #[.string S1, .string S2, .slice none 0 0] from Z4.out.grown g5 (fun e => by injection e with e; omega))
      have hz5' := Z5.out.lt
      clear r5 g5 y0 y1 y2 f3 f4 f5
      go_wp2_with fail
      go_loopw [4, 5] (fun g m wr => ∃ (acc : List Pt) (ss : List Value) (o : Option Ln) (l2 : List Ln) (v : Value) (kk f : Nat), g = .string (gO o) ∧ m = .bool o.isSome ∧ Blk wr w.heap.size 24 #[.string S1, .string S2, v] ∧ PLs wr (w.heap.size + 1) v acc ss ∧ RdS wr rp l2 t kk ∧ Fine l2 t kk ∧ w.grownBy wr (some rp) ∧ (∀ x, o = some x → okN x = true ∧ l2.length < f) ∧ kk + l2.length = 2 + q1.length ∧ acc.length + resSum acc + oneO o + l2.length = q1.length ∧ partsP rdN (q1.length + 1) q1 = (match o with
        | none => (acc, l2)
        | some x => (acc ++ (x, (ressP rdN l2).1) :: (partsP rdN f (ressP rdN l2).2).1, (partsP rdN f (ressP rdN l2).2).2))) (fun _ m wr => (2 + q1.length - atOf rp wr) + boolN m)
      case atStart =>
        refine ⟨[], [], o3, q2, .slice none 0 0, 0 + oneO (some su) + oneO (some bo) + oneO o3, q1.length, by rw [HS3.out], rfl, Z5.out, PLs.none _ _, R5.out, HF3.out, G5.out, ?_, ?_, ?_, ?_⟩
        · intro x hx
          have h1 := HL3.out
          rw [hx] at h1
          simp only [oneO] at h1
          exact ⟨HO3.out x hx, by omega⟩
        · have := HL3.out
          simp only [oneO] at this ⊢
          omega
        · have := HL3.out
          simpa [resSum] using this
        · rw [HP3.out]; cases o3 <;> rfl
      case round =>
        obtain ⟨acc, ss, o, l2, v, kk, f, rfl, rfl, hblk, hpl, hrd, hfi, hgb, hox, hkk, hcnt, hpp⟩ := hrel
        obtain ⟨wo, hwo⟩ : ∃ wo, wo = wr := ⟨_, rfl⟩
        subst hwo
        have hsw := hgb.size
        obtain ⟨ao, cap, hv⟩ := hpl.form
        subst hv
        have HPL := Lib.hid hpl
        have HRD := Lib.hid hrd
        have HFI := Lib.hid hfi
        have HGB := Lib.hid hgb
        have Z := Lib.hid hblk
        have HPP := Lib.hid hpp
        have HGW := Lib.hid (HG.out.grown hgb (fun j hj => by injection hj with hj; omega))
        have hq1 := HFI.out.cnt
        have hzl := hblk.lt
        have hfin : kk + l2.length ≤ 1000000 := hfi.cnt
        have hac : acc.length ≤ 1000000 := by omega
        have hrl := ress_len l2
        clear hpl hrd hfi hgb hpp hq1
        obtain ⟨z0, z1, z2, e0, e1, e2⟩ := blk3 hblk
        clear hblk
        cases o with
        | none =>
          have hrs : acc.length + resSum acc ≤ 1000000 := by
            simp only [oneO] at hcnt
            omega
          have HPA := Lib.hid (HPL.out.parts (by omega) (by unfold resSum at hrs; omega))
          have HTL := Lib.hid (tail_any (w := wo) S1 S2 (c := cap) HPA.out HGW.out.tab HGW.out.pow (by rw [pB_sum]; omega) (rightPs_pB HPL.out.ok))
          rw [pB_all] at HTL
          clear hox
          go_wp2_with fail
          (with_reducible refine HTL.out.mono ?_)
          rintro e w8 ⟨v8, rfl, hl8, b8⟩
          obtain ⟨TL, hTL⟩ : ∃ TL : List Ln, TL = tailL dgN acc := ⟨_, rfl⟩
          rw [← hTL] at hl8
          have ht9 : TL.length ≤ 9 := by rw [hTL]; exact tail_len _
          have ht0 : 0 < TL.length := by rw [hTL, tailL_cntLs]; simp
          obtain ⟨g8, cap8, hv8, hg8, hg8l, hc8, hcell8⟩ := lines_cells hl8 ht0
          have HTLs := Lib.hid hTL
          have HC8 := Lib.hid hcell8
          subst hv8
          have g8b := gb_below b8 (some rp)
          have R8 := Lib.hid (HRD.out.below b8 (by omega))
          have G8 := Lib.hid (gb_trans HGB.out g8b)
          have Z8 := Lib.hid (Z.out.below b8 hzl)
          have P8 := Lib.hid (PLs.grown HPL.out g8b (fun j hj => by injection hj with hj; omega))
          have HK := Lib.hid (show ∀ j b l', tk TL l2 = (j, b, l') → sumP rdN dgN ls t = (if b = true ∧ l' = [] ∧ t = [] then (some ⟨su, bo, acc⟩, 0) else (none, kk + j)) by
            intro j b l' hk
            rw [HRS.out]
            unfold restP
            rw [HPP.out]
            simp only
            rw [← HTLs.out, hk]
            simp only
            rw [show 2 + (q1.length - l2.length) + j = kk + j by omega])
          clear hTL hcell8 hl8 b8 g8b
          go_wp2_with fail
          go_loopw [51] (fun i wr => ∃ (j : Nat) (l' : List Ln), i = .int .i64 (j : Nat) ∧ j ≤ TL.length ∧ RdS wr rp l' t (kk + j) ∧ Fine l' t (kk + j) ∧ Blk wr w.heap.size 24 #[.string S1, .string S2, .slice ao acc.length cap] ∧ PLs wr (w.heap.size + 1) (.slice ao acc.length cap) acc ss ∧ (∀ i l, TL[i]? = some l → wr.cell? ⟨g8, i, none⟩ = some (lineV l)) ∧ w.grownBy wr (some rp) ∧ w8.heap.size ≤ wr.heap.size ∧ tk TL l2 = (j + (tk (TL.drop j) l').1, (tk (TL.drop j) l').2.1, (tk (TL.drop j) l').2.2)) (fun i _ => TL.length - (intOf i).toNat)
          case atStart => exact ⟨0, l2, rfl, Nat.zero_le _, R8.out, HFI.out, Z8.out, P8.out, HC8.out, G8.out, Nat.le_refl _, by simp⟩
          case round =>
            obtain ⟨j, l', rfl, hj, hrd, hfi, hz, hpl, hcl, hgb, hsz, htk⟩ := hrel
            have HR := Lib.hid hrd
            have HF := Lib.hid hfi
            have HZ := Lib.hid hz
            have HP := Lib.hid hpl
            have HCL := Lib.hid hcl
            have HGB2 := Lib.hid hgb
            have HT := Lib.hid htk
            have hs2 := hgb.size
            obtain ⟨x0, x1, x2, y0, y1, y2⟩ := blk3 hz
            have hzl2 := hz.lt
            have HGR := Lib.hid (HG.out.grown hgb (fun j hj => by injection hj with hj; omega))
            clear hrd hfi hz hpl hcl hgb htk
            by_cases hjt : j < TL.length
            · have hjt' : (j : Int) < (TL.length : Int) := by omega
              have hj0 : (0 : Int) ≤ (j : Int) := by omega
              obtain ⟨ln, hln⟩ : ∃ l, TL[j]? = some l := ⟨TL[j], List.getElem?_eq_getElem _⟩
              have hdr : TL.drop j = ln :: TL.drop (j + 1) := by
                rw [List.drop_eq_getElem_cons hjt]
                rw [List.getElem?_eq_getElem hjt] at hln
                injection hln with hln
                rw [hln]
              have hc := HCL.out j ln hln
              unfold lineV at hc
              have HNX := Lib.hid (next_any HR.out HF.out HGR.out.max)
              obtain ⟨LB, hLB⟩ : ∃ L : ByteArray, L = ⟨ln.toArray⟩ := ⟨_, rfl⟩
              rw [← hLB] at hc
              have HLB := Lib.hid hLB
              have HD := Lib.hid hdr
              have hq : IntKind.i64.wrap ((j : Int) + 1) = (j : Int) + 1 := IntWalk.i64_in _ (by omega)
              clear hLB hdr hln
              have fin : l'.head? ≠ some ln → sumP rdN dgN ls t = (none, kk + j) := by
                intro hne
                have h := HK.out _ _ _ HT.out
                rw [HD.out] at h
                cases l' with
                | nil => rw [h]; simp [tk]
                | cons y ys =>
                  rw [tk_ne _ _ (fun e => hne (by rw [e]; rfl))] at h
                  rw [h]; simp
              have FIN := Lib.hid fin
              clear fin
              by_cases hhd : l'.head? = some ln
              · obtain ⟨ys, rfl⟩ : ∃ ys, l' = ln :: ys := by
                  cases l' with
                  | nil => cases hhd
                  | cons y ys => injection hhd with hhd; subst hhd; exact ⟨ys, rfl⟩
                clear hhd
                rw [show nxt (ln :: ys) t = LB from HLB.out.symm] at HNX
                have heq : (LB.toList == LB.toList) = true := by simp
                have HTK := Lib.hid (fun (W : World) (a : RdS W rp (ln :: ys) t (kk + j)) (b : MaxAt W) => take_any a HF.out b)
                go_wp2_with fail
                (with_reducible refine HNX.out.mono ?_)
                rintro e w12 ⟨rfl, n12, rfl⟩
                go_wp2_with fail
                (with_reducible refine (HTK.out _ (HR.out.drewN n12) (HGR.out.max.drewN n12)).mono ?_)
                rintro e w13 ⟨rfl, r13, g13⟩
                have R13 := Lib.hid r13
                have g13' := gb_trans (gb_of_drewN wr n12 (some rp)) g13
                have G13 := Lib.hid (gb_trans HGB2.out g13')
                have Z13 := Lib.hid (HZ.out.grown g13' (fun e => by injection e with e; omega))
                have P13 := Lib.hid (PLs.grown HP.out g13' (fun j hj => by injection hj with hj; omega))
                have C13 := Lib.hid (show ∀ i l, TL[i]? = some l → w13.cell? ⟨g8, i, none⟩ = some (lineV l) from fun i l hi => (World.cell?_of_block (a := ⟨g8, i, none⟩) (g13'.block g8 (by omega) (fun e => by injection e with e; omega))).trans (HCL.out i l hi))
                have hs13 := g13'.size
                clear r13 g13 g13'
                go_wp2
                go_roundw
                case rel =>
                  refine ⟨j + 1, ys, by go_num, by omega, R13.out, HF.out.tail, Z13.out, P13.out, C13.out, G13.out, by omega, ?_⟩
                  rw [HT.out, HD.out, tk_eq]
                  simp only [Prod.mk.injEq, and_true]
                  omega
                case measure => simp [intOf]; omega
              · have hfin := FIN.out hhd
                have HFN := Lib.hid hfin
                clear hfin
                cases l' with
                | nil =>
                  go_wp2_with fail
                  (with_reducible refine HNX.out.mono ?_)
                  rintro e w12 ⟨rfl, n12, rfl⟩
                  go_wp2
                  have Z14 := Blk.set3 (.string S1) (.string S2) (.slice ao acc.length cap) (HZ.out.drewN n12)
                  obtain ⟨c0, c1, c2, _, _, _⟩ := blk3 Z14
                  exact bodyPost_ret (v := .tuple #[.agg #[.string S1, .string S2, .slice ao acc.length cap], .bool false]) (by simp [results, Tryd.results45, go_sem, c0, c1, c2]) rfl ⟨S1, S2, ao, acc.length, cap, false, [], kk + j, rfl,
                    RdS.set3 _ _ _ (HR.out.drewN n12) (by omega), gb_set3 _ _ _ (gb_drewN HGB2.out n12) (Nat.le_refl _), fun _ => HFN.out, fun h => by cases h⟩
                | cons y ys =>
                  obtain ⟨YB, hYB⟩ : ∃ L : ByteArray, L = ⟨y.toArray⟩ := ⟨_, rfl⟩
                  rw [show nxt (y :: ys) t = YB from hYB.symm] at HNX
                  have hne2 : (YB.toList == LB.toList) = false := by
                    rw [hYB, HLB.out, ByteArray.toList_eq, ByteArray.toList_eq, beq_eq_false_iff_ne]
                    simp only
                    exact fun e => hhd (by rw [e]; rfl)
                  clear hYB hhd
                  go_wp2_with fail
                  (with_reducible refine HNX.out.mono ?_)
                  rintro e w12 ⟨rfl, n12, rfl⟩
                  go_wp2
                  have Z14 := Blk.set3 (.string S1) (.string S2) (.slice ao acc.length cap) (HZ.out.drewN n12)
                  obtain ⟨c0, c1, c2, _, _, _⟩ := blk3 Z14
                  exact bodyPost_ret (v := .tuple #[.agg #[.string S1, .string S2, .slice ao acc.length cap], .bool false]) (by simp [results, Tryd.results45, go_sem, c0, c1, c2]) rfl ⟨S1, S2, ao, acc.length, cap, false, y :: ys, kk + j, rfl,
                    RdS.set3 _ _ _ (HR.out.drewN n12) (by omega), gb_set3 _ _ _ (gb_drewN HGB2.out n12) (Nat.le_refl _), fun _ => HFN.out, fun h => by cases h⟩
            · have hjt' : ¬ (j : Int) < (TL.length : Int) := by omega
              have hke : tk TL l2 = (j, true, l') := by
                rw [HT.out, List.drop_eq_nil_of_le (by omega), tk_nil]; rfl
              have HKE := Lib.hid (HK.out _ _ _ hke)
              clear hke
              go_wp2
              have Z14 := Blk.set3 (.string S1) (.string S2) (.slice ao acc.length cap) HZ.out
              obtain ⟨c0, c1, c2, _, _, _⟩ := blk3 Z14
              refine bodyPost_ret (v := .tuple #[.agg #[.string S1, .string S2, .slice ao acc.length cap], .bool true]) (by simp [results, Tryd.results45, go_sem, c0, c1, c2]) rfl ⟨S1, S2, ao, acc.length, cap, true, l', kk + j, rfl,
                RdS.set3 _ _ _ HR.out (by omega), gb_set3 _ _ _ HGB2.out (Nat.le_refl _), fun h => (by cases h), fun _ => ⟨⟨su, bo, acc⟩, ⟨HOS.out, HOB.out, HPL.out.ok⟩, HS1.out, HS2.out, fun W ha => (pls_agree (pls_set3 _ _ _ HP.out (by omega)) ha).parts (by omega) (by unfold resSum at hrs; omega), hrs, fun h => ?_, fun h => ?_⟩⟩
              · rw [HKE.out, if_pos (by exact ⟨by trivial, h.1, h.2⟩)]
              · rw [HKE.out, if_neg (fun e => h ⟨e.2.1, e.2.2⟩)]
        | some x =>
          have HX := Lib.hid (hox x rfl)
          have HRd := Lib.hid (show RdS wo.drew rp l2 t kk from HRD.out)
          have HGd := Lib.hid (HG.out.grown (gb_drew HGB.out) (fun j hj => by injection hj with hj; omega))
          have HRES := Lib.hid (results_any HRd.out HFI.out HGd.out hrp)
          obtain ⟨rs, hrs⟩ : ∃ rs, rs = (ressP rdN l2).1 := ⟨_, rfl⟩
          obtain ⟨l3, hl3⟩ : ∃ l, l = (ressP rdN l2).2 := ⟨_, rfl⟩
          rw [← hrs, ← hl3] at HRES hrl HPP
          have HOKR := Lib.hid (show ∀ r, r ∈ rs → okR okN r by rw [hrs]; exact ress_ok l2)
          have HF3 := Lib.hid (show Fine l3 t (kk + rs.length) by rw [hrs, hl3]; exact ress_fine l2 t kk HFI.out)
          obtain ⟨G, hG⟩ : ∃ G, G = gO (some x) := ⟨_, rfl⟩
          rw [← hG]
          have HGN := Lib.hid (show G = ⟨x.toArray⟩ from hG)
          have hlo := World.ownsRow.lt HPL.out.row
          clear hrs hl3 hG hox
          go_wp2_with fail
          have mixed : Tryd.prog.follows .mixedOrders = true := by kernel_rfl
          refine wp_region_held_drew (S := fun _ => True) mixed trivial (fun hS => ?_)
          refine wpAnyH_take (i := 0) (v := (.pointer (some ⟨w.heap.size, 2, none⟩))) rfl (by kernel_rfl) (by kernel_rfl) (by kernel_rfl) (fun _ _ _ h => h) (Or.inl ⟨by rfl, fun W hW => by have h0 := hW; go_simp⟩) hS ?_
          refine wpAnyH_take (i := 2) (v := (.string G)) rfl (by kernel_rfl) (by kernel_rfl) (by kernel_rfl) (fun _ _ _ h => h) (Or.inl ⟨by rfl, fun W hW => by have h0 := hW; go_simp⟩) hS ?_
          refine wpAnyH_take (i := 3) (v := (.pointer (some ⟨rp, 0, none⟩))) rfl (by kernel_rfl) (by kernel_rfl) (by kernel_rfl) (fun _ _ _ h => h) (Or.inl ⟨by rfl, fun W hW => by have h0 := hW; go_simp⟩) hS ?_
          refine wpAnyH_ready (rs := [1, 4]) (by kernel_rfl) (by simp) ?_
          refine AllReadyH.cons rfl (fun K hK => ?_) (AllReadyH.cons rfl (fun K hK => ?_) AllReadyH.nil)
          · go_simp
            refine hK.out _ _ hS (fun hS => ?_)
            clear hK K
            refine wpAnyH_ready (rs := [4]) (by kernel_rfl) (by simp) ?_
            refine AllReadyH.cons rfl (fun K hK => ?_) AllReadyH.nil
            go_simp
            go_wp2_with fail
            (with_reducible refine HRES.out.mono ?_)
            rintro e w7 ⟨vr, rfl, hresv, r7, g7⟩
            obtain ⟨RA, rc, hvr⟩ := hresv.form
            subst hvr
            have HRV := Lib.hid hresv
            have R7 := Lib.hid r7
            have G7 := Lib.hid (gb_trans (gb_drew HGB.out) g7)
            have Z7 := Lib.hid ((Z.out.drew).grown g7 (fun e => by injection e with e; omega))
            obtain ⟨_, _, d2, _, _, d5⟩ := blk3 Z7.out
            have hz7 := Z7.out.lt
            have P7 := (pls_drew HPL.out).grown g7 (fun j hj => by injection hj with hj; omega)
            have hs7 : wo.heap.size ≤ w7.heap.size := g7.size
            clear r7 g7 hresv
            refine hK.out _ _ hS (fun hS => ?_)
            clear hK K
            refine wpAnyH_take (i := 5) (v := (.agg #[.string G, .slice RA rs.length rc])) rfl (by kernel_rfl) (by kernel_rfl) (by kernel_rfl) (fun _ _ _ h => h) (Or.inl ⟨by rfl, fun W hW => by have h0 := hW; go_simp⟩) hS ?_
            refine wpAnyH_ready (rs := [6]) (by kernel_rfl) (by simp) ?_
            refine AllReadyH.cons rfl (fun K hK => ?_) AllReadyH.nil
            go_simp
            refine hK.out _ _ hS (fun hS => ?_)
            clear hK K
            refine wpAnyH_ready (rs := [7]) (by kernel_rfl) (by simp) ?_
            refine AllReadyH.cons rfl (fun K hK => ?_) AllReadyH.nil
            refine step_append_lies _ (by rfl) _ _ _ (by rfl) (w.heap.size + 1) 46 i0 (.agg #[.string ByteArray.empty, .slice none 0 0]) 2 40 Tryd.underlying22 hi hz0 hz1 hz2 rfl (by decide) _ acc.length (partVs acc ss) (by rfl) (P7.row.alloc _) ⟨w7.heap.size, 0, none⟩ 1 1 [.string G, .slice RA rs.length rc] (by rfl) (by rfl) (World.news_of_block (cs := #[.string G, .slice RA rs.length rc]) (t := 46) (fr := (0, 0)) (heap_alloc_new w7 _)) (by simp [Value.oneCell']) (by omega) (by unfold maxLen; omega) (by omega) (by simp; omega) (w7.heap.size + 1) (by simp) ?_
            intro gg cap' w9 hown9 hgrow hat hlt9
            have Z9 := Lib.hid ((Z7.out.alloc (.cells #[.string G, .slice RA rs.length rc] 46)).grown hgrow (fun e => by have := (hlo _ e.symm).1; omega))
            obtain ⟨_, _, y2, _, _, y5⟩ := blk3 Z9.out
            have hz9 := Z9.out.lt
            have R9 := Lib.hid ((show Blk _ rp 81 _ from Blk.alloc R7.out (.cells #[.string G, .slice RA rs.length rc] 46)).grown hgrow (fun e => by have := (hlo _ e.symm).1; omega))
            have G9 := Lib.hid (gb_step (gb_alloc G7.out (.cells #[.string G, .slice RA rs.length rc] 46)) hgrow (fun j hj => .inr (by have := (hlo j hj).1; omega)))
            have P9 := Lib.hid (pls_snoc (p := (x, rs)) (o := .cells #[.string G, .slice RA rs.length rc] 46) P7 (fun j hj => (hlo j hj).2) HRV.out (by omega) ⟨HX.out.1, HOKR.out⟩ hgrow (by rw [HGN.out] at hown9; exact hown9) hat)
            clear hgrow hat hown9
            refine hK.out _ _ hS (fun hS => ?_)
            clear hK K
            refine wpAnyH_take (i := 8) (v := (.pointer (some ⟨w.heap.size, 2, none⟩))) rfl (by kernel_rfl) (by kernel_rfl) (by kernel_rfl) (fun _ _ _ h => h) (Or.inl ⟨by rfl, fun W hW => by have h0 := hW; go_simp⟩) hS ?_
            refine wpAnyH_ready (rs := [9]) (by kernel_rfl) (by simp) ?_
            refine AllReadyH.cons rfl (fun K hK => ?_) AllReadyH.nil
            go_simp
            refine hK.out _ _ hS (fun hS => ?_)
            clear hK K
            refine wpAnyH_done (by kernel_rfl) ?_ _
            have hs9 := G9.out.size
            have R10 := Lib.hid (Blk.far R9.out (p := ⟨w.heap.size, 2, none⟩) (by simp; omega) (.slice (some ⟨gg, 0, none⟩) (acc.length + 1) cap'))
            have G10 := Lib.hid (gb_set (g := rp) (p := ⟨w.heap.size, 2, none⟩) G9.out (.inr (Nat.le_refl _)) (.slice (some ⟨gg, 0, none⟩) (acc.length + 1) cap'))
            have Z10 := Lib.hid (show Blk (w9.setCell ⟨w.heap.size, 2, none⟩ (.slice (some ⟨gg, 0, none⟩) (acc.length + 1) cap')) w.heap.size 24 #[.string S1, .string S2, .slice (some ⟨gg, 0, none⟩) (acc.length + 1) cap'] from Z9.out.set_ 2 (.slice (some ⟨gg, 0, none⟩) (acc.length + 1) cap'))
            have P10 := Lib.hid (PLs.set_ P9.out (p := ⟨w.heap.size, 2, none⟩) (by simp) (.slice (some ⟨gg, 0, none⟩) (acc.length + 1) cap'))
            have HG10 := Lib.hid (HG.out.grown G10.out (fun j hj => by injection hj with hj; omega))
            have HN := Lib.hid (named_any (rp := rp) (ls := l3) (t := t) (k := kk + rs.length) gw R10.out HF3.out HG10.out)
            have HO4 := Lib.hid (fun n h => stepN_ok (wd := gw) (ls := l3) (n := n) h)
            have HL4 := Lib.hid (stepN_len gw l3)
            have HF4 := Lib.hid (stepN_fine (wd := gw) HF3.out)
            obtain ⟨f', hf'⟩ : ∃ f', f = f' + 1 := ⟨f - 1, by have := HX.out.2; omega⟩
            subst hf'
            have HP4 := Lib.hid (parts_step f' l3)
            obtain ⟨o4, ho4⟩ : ∃ o, o = (stepN gw l3).1 := ⟨_, rfl⟩
            obtain ⟨l4, hl4⟩ : ∃ l, l = (stepN gw l3).2 := ⟨_, rfl⟩
            rw [← ho4] at HN HO4 HL4 HF4 HP4
            rw [← hl4] at HN HL4 HF4 HP4
            obtain ⟨S4, hS4⟩ : ∃ S, S = gO o4 := ⟨_, rfl⟩
            rw [← hS4] at HN
            have HS4 := Lib.hid hS4
            clear hS4 ho4 hl4
            have HN' := Lib.hid (show Calls Tryd.prog 81 #[.pointer (some ⟨rp, 0, none⟩), .string ⟨#[103, 114, 111, 117, 112, 32]⟩] _ _ from HN.out)
            go_wp2_with fail
            (with_reducible refine HN'.out.mono ?_)
            rintro e w11 ⟨rfl, r11, g11⟩
            have R11 := Lib.hid r11
            have G11 := Lib.hid (gb_trans G10.out g11)
            have Z11 := Lib.hid (Z10.out.grown g11 (fun e => by injection e with e; omega))
            have P11 := Lib.hid (PLs.grown P10.out g11 (fun j hj => by injection hj with hj; omega))
            clear r11 g11
            go_wp2
            go_roundw
            case rel =>
              have hl4 := HL4.out
              refine ⟨acc ++ [(x, rs)], ss ++ [.slice RA rs.length rc], o4, l4, .slice (some ⟨gg, 0, none⟩) (acc.length + 1) cap', kk + rs.length + oneO o4, f', by rw [HS4.out], rfl, Z11.out, P11.out, R11.out, HF4.out, G11.out, ?_, by omega, ?_, ?_⟩
              · intro y hy
                rw [hy] at hl4
                simp only [oneO] at hl4
                exact ⟨HO4.out y hy, by have := HX.out.2; omega⟩
              · rw [resSum_snoc, List.length_append]
                simp only [oneO, List.length_cons, List.length_nil] at hcnt ⊢
                cases o4 <;> simp only [oneO] at hl4 ⊢ <;> omega
              · rw [HPP.out, HP4.out]
                cases o4 with
                | none => rfl
                | some y => simp
            case measure =>
              have h1 := atOf_rd R11.out
              have h2 := atOf_rd HRD.out
              have hl4 := HL4.out
              rw [h1, h2]
              cases o4 <;> simp only [boolN, oneO, Option.isSome] at hl4 ⊢ <;> omega
          · go_simp
            go_wp2_with fail
            (with_reducible refine HRES.out.mono ?_)
            rintro e w7 ⟨vr, rfl, hresv, r7, g7⟩
            obtain ⟨RA, rc, hvr⟩ := hresv.form
            subst hvr
            have HRV := Lib.hid hresv
            have R7 := Lib.hid r7
            have G7 := Lib.hid (gb_trans (gb_drew HGB.out) g7)
            have Z7 := Lib.hid ((Z.out.drew).grown g7 (fun e => by injection e with e; omega))
            obtain ⟨_, _, d2, _, _, d5⟩ := blk3 Z7.out
            have hz7 := Z7.out.lt
            have P7 := (pls_drew HPL.out).grown g7 (fun j hj => by injection hj with hj; omega)
            have hs7 : wo.heap.size ≤ w7.heap.size := g7.size
            clear r7 g7 hresv
            refine hK.out _ _ hS (fun hS => ?_)
            clear hK K
            refine wpAnyH_take (i := 5) (v := (.agg #[.string G, .slice RA rs.length rc])) rfl (by kernel_rfl) (by kernel_rfl) (by kernel_rfl) (fun _ _ _ h => h) (Or.inl ⟨by rfl, fun W hW => by have h0 := hW; go_simp⟩) hS ?_
            refine wpAnyH_ready (rs := [1, 6]) (by kernel_rfl) (by simp) ?_
            refine AllReadyH.cons rfl (fun K hK => ?_) (AllReadyH.cons rfl (fun K hK => ?_) AllReadyH.nil)
            · go_simp
              refine hK.out _ _ hS (fun hS => ?_)
              clear hK K
              refine wpAnyH_ready (rs := [6]) (by kernel_rfl) (by simp) ?_
              refine AllReadyH.cons rfl (fun K hK => ?_) AllReadyH.nil
              go_simp
              refine hK.out _ _ hS (fun hS => ?_)
              clear hK K
              refine wpAnyH_ready (rs := [7]) (by kernel_rfl) (by simp) ?_
              refine AllReadyH.cons rfl (fun K hK => ?_) AllReadyH.nil
              refine step_append_lies _ (by rfl) _ _ _ (by rfl) (w.heap.size + 1) 46 i0 (.agg #[.string ByteArray.empty, .slice none 0 0]) 2 40 Tryd.underlying22 hi hz0 hz1 hz2 rfl (by decide) _ acc.length (partVs acc ss) (by rfl) (P7.row.alloc _) ⟨w7.heap.size, 0, none⟩ 1 1 [.string G, .slice RA rs.length rc] (by rfl) (by rfl) (World.news_of_block (cs := #[.string G, .slice RA rs.length rc]) (t := 46) (fr := (0, 0)) (heap_alloc_new w7 _)) (by simp [Value.oneCell']) (by omega) (by unfold maxLen; omega) (by omega) (by simp; omega) (w7.heap.size + 1) (by simp) ?_
              intro gg cap' w9 hown9 hgrow hat hlt9
              have Z9 := Lib.hid ((Z7.out.alloc (.cells #[.string G, .slice RA rs.length rc] 46)).grown hgrow (fun e => by have := (hlo _ e.symm).1; omega))
              obtain ⟨_, _, y2, _, _, y5⟩ := blk3 Z9.out
              have hz9 := Z9.out.lt
              have R9 := Lib.hid ((show Blk _ rp 81 _ from Blk.alloc R7.out (.cells #[.string G, .slice RA rs.length rc] 46)).grown hgrow (fun e => by have := (hlo _ e.symm).1; omega))
              have G9 := Lib.hid (gb_step (gb_alloc G7.out (.cells #[.string G, .slice RA rs.length rc] 46)) hgrow (fun j hj => .inr (by have := (hlo j hj).1; omega)))
              have P9 := Lib.hid (pls_snoc (p := (x, rs)) (o := .cells #[.string G, .slice RA rs.length rc] 46) P7 (fun j hj => (hlo j hj).2) HRV.out (by omega) ⟨HX.out.1, HOKR.out⟩ hgrow (by rw [HGN.out] at hown9; exact hown9) hat)
              clear hgrow hat hown9
              refine hK.out _ _ hS (fun hS => ?_)
              clear hK K
              refine wpAnyH_take (i := 8) (v := (.pointer (some ⟨w.heap.size, 2, none⟩))) rfl (by kernel_rfl) (by kernel_rfl) (by kernel_rfl) (fun _ _ _ h => h) (Or.inl ⟨by rfl, fun W hW => by have h0 := hW; go_simp⟩) hS ?_
              refine wpAnyH_ready (rs := [9]) (by kernel_rfl) (by simp) ?_
              refine AllReadyH.cons rfl (fun K hK => ?_) AllReadyH.nil
              go_simp
              refine hK.out _ _ hS (fun hS => ?_)
              clear hK K
              refine wpAnyH_done (by kernel_rfl) ?_ _
              have hs9 := G9.out.size
              have R10 := Lib.hid (Blk.far R9.out (p := ⟨w.heap.size, 2, none⟩) (by simp; omega) (.slice (some ⟨gg, 0, none⟩) (acc.length + 1) cap'))
              have G10 := Lib.hid (gb_set (g := rp) (p := ⟨w.heap.size, 2, none⟩) G9.out (.inr (Nat.le_refl _)) (.slice (some ⟨gg, 0, none⟩) (acc.length + 1) cap'))
              have Z10 := Lib.hid (show Blk (w9.setCell ⟨w.heap.size, 2, none⟩ (.slice (some ⟨gg, 0, none⟩) (acc.length + 1) cap')) w.heap.size 24 #[.string S1, .string S2, .slice (some ⟨gg, 0, none⟩) (acc.length + 1) cap'] from Z9.out.set_ 2 (.slice (some ⟨gg, 0, none⟩) (acc.length + 1) cap'))
              have P10 := Lib.hid (PLs.set_ P9.out (p := ⟨w.heap.size, 2, none⟩) (by simp) (.slice (some ⟨gg, 0, none⟩) (acc.length + 1) cap'))
              have HG10 := Lib.hid (HG.out.grown G10.out (fun j hj => by injection hj with hj; omega))
              have HN := Lib.hid (named_any (rp := rp) (ls := l3) (t := t) (k := kk + rs.length) gw R10.out HF3.out HG10.out)
              have HO4 := Lib.hid (fun n h => stepN_ok (wd := gw) (ls := l3) (n := n) h)
              have HL4 := Lib.hid (stepN_len gw l3)
              have HF4 := Lib.hid (stepN_fine (wd := gw) HF3.out)
              obtain ⟨f', hf'⟩ : ∃ f', f = f' + 1 := ⟨f - 1, by have := HX.out.2; omega⟩
              subst hf'
              have HP4 := Lib.hid (parts_step f' l3)
              obtain ⟨o4, ho4⟩ : ∃ o, o = (stepN gw l3).1 := ⟨_, rfl⟩
              obtain ⟨l4, hl4⟩ : ∃ l, l = (stepN gw l3).2 := ⟨_, rfl⟩
              rw [← ho4] at HN HO4 HL4 HF4 HP4
              rw [← hl4] at HN HL4 HF4 HP4
              obtain ⟨S4, hS4⟩ : ∃ S, S = gO o4 := ⟨_, rfl⟩
              rw [← hS4] at HN
              have HS4 := Lib.hid hS4
              clear hS4 ho4 hl4
              have HN' := Lib.hid (show Calls Tryd.prog 81 #[.pointer (some ⟨rp, 0, none⟩), .string ⟨#[103, 114, 111, 117, 112, 32]⟩] _ _ from HN.out)
              go_wp2_with fail
              (with_reducible refine HN'.out.mono ?_)
              rintro e w11 ⟨rfl, r11, g11⟩
              have R11 := Lib.hid r11
              have G11 := Lib.hid (gb_trans G10.out g11)
              have Z11 := Lib.hid (Z10.out.grown g11 (fun e => by injection e with e; omega))
              have P11 := Lib.hid (PLs.grown P10.out g11 (fun j hj => by injection hj with hj; omega))
              clear r11 g11
              go_wp2
              go_roundw
              case rel =>
                have hl4 := HL4.out
                refine ⟨acc ++ [(x, rs)], ss ++ [.slice RA rs.length rc], o4, l4, .slice (some ⟨gg, 0, none⟩) (acc.length + 1) cap', kk + rs.length + oneO o4, f', by rw [HS4.out], rfl, Z11.out, P11.out, R11.out, HF4.out, G11.out, ?_, by omega, ?_, ?_⟩
                · intro y hy
                  rw [hy] at hl4
                  simp only [oneO] at hl4
                  exact ⟨HO4.out y hy, by have := HX.out.2; omega⟩
                · rw [resSum_snoc, List.length_append]
                  simp only [oneO, List.length_cons, List.length_nil] at hcnt ⊢
                  cases o4 <;> simp only [oneO] at hl4 ⊢ <;> omega
                · rw [HPP.out, HP4.out]
                  cases o4 with
                  | none => rfl
                  | some y => simp
              case measure =>
                have h1 := atOf_rd R11.out
                have h2 := atOf_rd HRD.out
                have hl4 := HL4.out
                rw [h1, h2]
                cases o4 <;> simp only [boolN, oneO, Option.isSome] at hl4 ⊢ <;> omega
            · go_simp
              refine hK.out _ _ hS (fun hS => ?_)
              clear hK K
              refine wpAnyH_ready (rs := [1]) (by kernel_rfl) (by simp) ?_
              refine AllReadyH.cons rfl (fun K hK => ?_) AllReadyH.nil
              go_simp
              refine hK.out _ _ hS (fun hS => ?_)
              clear hK K
              refine wpAnyH_ready (rs := [7]) (by kernel_rfl) (by simp) ?_
              refine AllReadyH.cons rfl (fun K hK => ?_) AllReadyH.nil
              refine step_append_lies _ (by rfl) _ _ _ (by rfl) (w.heap.size + 1) 46 i0 (.agg #[.string ByteArray.empty, .slice none 0 0]) 2 40 Tryd.underlying22 hi hz0 hz1 hz2 rfl (by decide) _ acc.length (partVs acc ss) (by rfl) (P7.row.alloc _) ⟨w7.heap.size, 0, none⟩ 1 1 [.string G, .slice RA rs.length rc] (by rfl) (by rfl) (World.news_of_block (cs := #[.string G, .slice RA rs.length rc]) (t := 46) (fr := (0, 0)) (heap_alloc_new w7 _)) (by simp [Value.oneCell']) (by omega) (by unfold maxLen; omega) (by omega) (by simp; omega) (w7.heap.size + 1) (by simp) ?_
              intro gg cap' w9 hown9 hgrow hat hlt9
              have Z9 := Lib.hid ((Z7.out.alloc (.cells #[.string G, .slice RA rs.length rc] 46)).grown hgrow (fun e => by have := (hlo _ e.symm).1; omega))
              obtain ⟨_, _, y2, _, _, y5⟩ := blk3 Z9.out
              have hz9 := Z9.out.lt
              have R9 := Lib.hid ((show Blk _ rp 81 _ from Blk.alloc R7.out (.cells #[.string G, .slice RA rs.length rc] 46)).grown hgrow (fun e => by have := (hlo _ e.symm).1; omega))
              have G9 := Lib.hid (gb_step (gb_alloc G7.out (.cells #[.string G, .slice RA rs.length rc] 46)) hgrow (fun j hj => .inr (by have := (hlo j hj).1; omega)))
              have P9 := Lib.hid (pls_snoc (p := (x, rs)) (o := .cells #[.string G, .slice RA rs.length rc] 46) P7 (fun j hj => (hlo j hj).2) HRV.out (by omega) ⟨HX.out.1, HOKR.out⟩ hgrow (by rw [HGN.out] at hown9; exact hown9) hat)
              clear hgrow hat hown9
              refine hK.out _ _ hS (fun hS => ?_)
              clear hK K
              refine wpAnyH_take (i := 8) (v := (.pointer (some ⟨w.heap.size, 2, none⟩))) rfl (by kernel_rfl) (by kernel_rfl) (by kernel_rfl) (fun _ _ _ h => h) (Or.inl ⟨by rfl, fun W hW => by have h0 := hW; go_simp⟩) hS ?_
              refine wpAnyH_ready (rs := [9]) (by kernel_rfl) (by simp) ?_
              refine AllReadyH.cons rfl (fun K hK => ?_) AllReadyH.nil
              go_simp
              refine hK.out _ _ hS (fun hS => ?_)
              clear hK K
              refine wpAnyH_done (by kernel_rfl) ?_ _
              have hs9 := G9.out.size
              have R10 := Lib.hid (Blk.far R9.out (p := ⟨w.heap.size, 2, none⟩) (by simp; omega) (.slice (some ⟨gg, 0, none⟩) (acc.length + 1) cap'))
              have G10 := Lib.hid (gb_set (g := rp) (p := ⟨w.heap.size, 2, none⟩) G9.out (.inr (Nat.le_refl _)) (.slice (some ⟨gg, 0, none⟩) (acc.length + 1) cap'))
              have Z10 := Lib.hid (show Blk (w9.setCell ⟨w.heap.size, 2, none⟩ (.slice (some ⟨gg, 0, none⟩) (acc.length + 1) cap')) w.heap.size 24 #[.string S1, .string S2, .slice (some ⟨gg, 0, none⟩) (acc.length + 1) cap'] from Z9.out.set_ 2 (.slice (some ⟨gg, 0, none⟩) (acc.length + 1) cap'))
              have P10 := Lib.hid (PLs.set_ P9.out (p := ⟨w.heap.size, 2, none⟩) (by simp) (.slice (some ⟨gg, 0, none⟩) (acc.length + 1) cap'))
              have HG10 := Lib.hid (HG.out.grown G10.out (fun j hj => by injection hj with hj; omega))
              have HN := Lib.hid (named_any (rp := rp) (ls := l3) (t := t) (k := kk + rs.length) gw R10.out HF3.out HG10.out)
              have HO4 := Lib.hid (fun n h => stepN_ok (wd := gw) (ls := l3) (n := n) h)
              have HL4 := Lib.hid (stepN_len gw l3)
              have HF4 := Lib.hid (stepN_fine (wd := gw) HF3.out)
              obtain ⟨f', hf'⟩ : ∃ f', f = f' + 1 := ⟨f - 1, by have := HX.out.2; omega⟩
              subst hf'
              have HP4 := Lib.hid (parts_step f' l3)
              obtain ⟨o4, ho4⟩ : ∃ o, o = (stepN gw l3).1 := ⟨_, rfl⟩
              obtain ⟨l4, hl4⟩ : ∃ l, l = (stepN gw l3).2 := ⟨_, rfl⟩
              rw [← ho4] at HN HO4 HL4 HF4 HP4
              rw [← hl4] at HN HL4 HF4 HP4
              obtain ⟨S4, hS4⟩ : ∃ S, S = gO o4 := ⟨_, rfl⟩
              rw [← hS4] at HN
              have HS4 := Lib.hid hS4
              clear hS4 ho4 hl4
              have HN' := Lib.hid (show Calls Tryd.prog 81 #[.pointer (some ⟨rp, 0, none⟩), .string ⟨#[103, 114, 111, 117, 112, 32]⟩] _ _ from HN.out)
              go_wp2_with fail
              (with_reducible refine HN'.out.mono ?_)
              rintro e w11 ⟨rfl, r11, g11⟩
              have R11 := Lib.hid r11
              have G11 := Lib.hid (gb_trans G10.out g11)
              have Z11 := Lib.hid (Z10.out.grown g11 (fun e => by injection e with e; omega))
              have P11 := Lib.hid (PLs.grown P10.out g11 (fun j hj => by injection hj with hj; omega))
              clear r11 g11
              go_wp2
              go_roundw
              case rel =>
                have hl4 := HL4.out
                refine ⟨acc ++ [(x, rs)], ss ++ [.slice RA rs.length rc], o4, l4, .slice (some ⟨gg, 0, none⟩) (acc.length + 1) cap', kk + rs.length + oneO o4, f', by rw [HS4.out], rfl, Z11.out, P11.out, R11.out, HF4.out, G11.out, ?_, by omega, ?_, ?_⟩
                · intro y hy
                  rw [hy] at hl4
                  simp only [oneO] at hl4
                  exact ⟨HO4.out y hy, by have := HX.out.2; omega⟩
                · rw [resSum_snoc, List.length_append]
                  simp only [oneO, List.length_cons, List.length_nil] at hcnt ⊢
                  cases o4 <;> simp only [oneO] at hl4 ⊢ <;> omega
                · rw [HPP.out, HP4.out]
                  cases o4 with
                  | none => rfl
                  | some y => simp
              case measure =>
                have h1 := atOf_rd R11.out
                have h2 := atOf_rd HRD.out
                have hl4 := HL4.out
                rw [h1, h2]
                cases o4 <;> simp only [boolN, oneO, Option.isSome] at hl4 ⊢ <;> omega
end Go.Proofs.YtplenagncmhhoaaDoor
