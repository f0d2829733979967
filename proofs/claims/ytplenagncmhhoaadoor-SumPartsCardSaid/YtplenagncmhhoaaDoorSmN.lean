/- The reader of a report: results. -/
import Derived.Test.YtplenagncmhhoaaDoorSmM
namespace Go.Proofs.YtplenagncmhhoaaDoor
open Go.RowKit

structure GlAt (w : World) : Prop where
  tab : TabAt w
  max : MaxAt w
  pow : Pow w
theorem pow_named : Tryd.prog.globalNamed "internal/strconv.uint64pow10" = some 2 := by kernel_rfl
theorem Pow.same {w w' : World} (h : Pow w) (hb : w'.heap[2]? = w.heap[2]?) : Pow w' := by
  unfold Pow Lib.TabIs World.var? at h ⊢
  rw [pow_named] at h ⊢
  simp only [Option.bind_some] at h ⊢
  rw [hb]
  exact h
theorem Pow.lt {w : World} (h : Pow w) : 2 < w.heap.size := by
  unfold Pow Lib.TabIs World.var? at h
  rw [pow_named] at h
  simp only [Option.bind_some] at h
  rcases Nat.lt_or_ge 2 w.heap.size with h' | h'
  · exact h'
  · rw [Array.getElem?_eq_none h'] at h; cases h
theorem GlAt.grown {w w' : World} {r : Option Nat} (h : GlAt w) (hg : w.grownBy w' r) (hr : ∀ j, r = some j → 4 < j) : GlAt w' := by
  have no : ∀ j, j ≤ 4 → some j ≠ r := fun j hj e => by have := hr j e.symm; omega
  refine ⟨⟨fun i s hs => ?_, Nat.lt_of_lt_of_le h.tab.lt hg.size⟩, h.max.grown hg (no 1 (by omega)), h.pow.same (hg.block _ h.pow.lt (no _ (by omega)))⟩
  exact (World.cell?_of_block (a := ⟨0, i, none⟩) (hg.block 0 h.tab.lt (no 0 (by omega)))).trans (h.tab.cell i s hs)
theorem GlAt.alloc {w : World} (h : GlAt w) (o : Obj) : GlAt (w.alloc o) := h.grown (gb_alloc (gb_refl w none) o) (fun _ e => by cases e)
def resV (r : Ln × Nat) : List Value := [.string ⟨r.1.toArray⟩, .int .i64 (r.2 : Nat)]
def resVs (rs : List (Ln × Nat)) : List Value := rs.flatMap resV
def ResLs (w : World) (B : Nat) (v : Value) (rs : List (Ln × Nat)) : Prop := w.ownsRow B 49 2 v rs.length (resVs rs)
theorem infRes : (Tryd.prog.info? 49).map (fun i => (i.zero, i.size, i.bytes)) = some (some (.agg #[.string ByteArray.empty, .int .i64 0]), 2, 24) := by kernel_rfl
theorem ResLs.form {w : World} {B : Nat} {v : Value} {rs : List (Ln × Nat)} (h : ResLs w B v rs) : ∃ ao cap, v = .slice ao rs.length cap := by
  rcases h.2 with ⟨rfl, h0⟩ | ⟨g, cap, cur, rfl, _⟩
  · exact ⟨none, 0, by rw [h0]⟩
  · exact ⟨_, _, rfl⟩
theorem ResLs.none (w : World) (B : Nat) : ResLs w B (.slice Option.none 0 0) [] := ⟨rfl, Or.inl ⟨rfl, rfl⟩⟩
theorem own_grown {w w' : World} {B : Nat} {e : TypeId} {sz : Nat} {v : Value} {n : Nat} {xs : List Value} {r : Option Nat} (h : w.ownsRow B e sz v n xs) (hg : w.grownBy w' r) (hr : ∀ j, r = some j → j < B) : w'.ownsRow B e sz v n xs := by
  refine World.ownsRow.kept h hg ?_
  cases hv : v.ownBlock with
  | none => exact .inl rfl
  | some g =>
    right
    intro e
    have h1 := (World.ownsRow.lt h g hv).1
    have h2 := hr g e.symm
    omega
def stepR : List Ln → Option (Ln × Nat) × List Ln
  | [] => (none, [])
  | l :: r => match resP rdN l with
    | none => (none, l :: r)
    | some x => (some x, r)
def nmO (o : Option (Ln × Nat)) : ByteArray := match o with
  | none => ⟨#[]⟩
  | some x => ⟨x.1.toArray⟩
def vO (o : Option (Ln × Nat)) : Int := match o with
  | none => 0
  | some x => (x.2 : Nat)
def oneO {α : Type} (o : Option α) : Nat := match o with
  | none => 0
  | some _ => 1
theorem stepR_none {l : Ln} {r : List Ln} (h : resP rdN l = none) : stepR (l :: r) = (none, l :: r) := by
  show (match resP rdN l with
    | none => (none, l :: r)
    | some x => (some x, r)) = _
  rw [h]
theorem stepR_some {l : Ln} {r : List Ln} {x : Ln × Nat} (h : resP rdN l = some x) : stepR (l :: r) = (some x, r) := by
  show (match resP rdN l with
    | none => (none, l :: r)
    | some x => (some x, r)) = _
  rw [h]
theorem ressP_none {l : Ln} {r : List Ln} (h : resP rdN l = none) : ressP rdN (l :: r) = ([], l :: r) := by
  show (match resP rdN l with
    | none => ([], l :: r)
    | some x => (x :: (ressP rdN r).1, (ressP rdN r).2)) = _
  rw [h]
theorem ressP_some {l : Ln} {r : List Ln} {x : Ln × Nat} (h : resP rdN l = some x) : ressP rdN (l :: r) = (x :: (ressP rdN r).1, (ressP rdN r).2) := by
  show (match resP rdN l with
    | none => ([], l :: r)
    | some x => (x :: (ressP rdN r).1, (ressP rdN r).2)) = _
  rw [h]
theorem ress_step (ls : List Ln) : ressP rdN ls = match (stepR ls).1 with
    | none => ([], (stepR ls).2)
    | some x => (x :: (ressP rdN (stepR ls).2).1, (ressP rdN (stepR ls).2).2) := by
  cases ls with
  | nil => rfl
  | cons l r =>
    cases h : resP rdN l with
    | none => rw [stepR_none h, ressP_none h]
    | some x => rw [stepR_some h, ressP_some h]
theorem step_len (ls : List Ln) : oneO (stepR ls).1 + (stepR ls).2.length = ls.length := by
  cases ls with
  | nil => rfl
  | cons l r =>
    cases h : resP rdN l with
    | none => rw [stepR_none h]; simp [oneO]
    | some x => rw [stepR_some h]; simp [oneO]; omega
theorem step_fine {ls : List Ln} {t : Ln} {k : Nat} (hf : Fine ls t k) : Fine (stepR ls).2 t (k + oneO (stepR ls).1) := by
  cases ls with
  | nil => exact hf
  | cons l r =>
    cases h : resP rdN l with
    | none => rw [stepR_none h]; exact hf
    | some x => rw [stepR_some h]; exact hf.tail
theorem result_any {w : World} {rp : Nat} {ls : List Ln} {t : Ln} {k : Nat} (h : RdS w rp ls t k) (hf : Fine ls t k) (hg : GlAt w) :
    Calls Tryd.prog 102 #[.pointer (some ⟨rp, 0, none⟩)] w fun e w' => e = .returned (.tuple #[.agg #[.string (nmO (stepR ls).1), .int .i64 (vO (stepR ls).1)], .bool (stepR ls).1.isSome]) ∧ RdS w' rp (stepR ls).2 t (k + oneO (stepR ls).1) ∧ w.grownBy w' (some rp) := by
  cases ls with
  | nil => exact result_no_any h hf hg.max hg.tab fun l hl => by cases hl
  | cons l r =>
    cases hr : resP rdN l with
    | none => rw [stepR_none hr]; exact result_no_any h hf hg.max hg.tab fun x hx => by injection hx with hx; subst hx; exact hr
    | some x => rw [stepR_some hr]; exact result_yes_any h hf hg.max hg.tab (n := x.1) (v := x.2) (by rw [hr])
theorem own_set {w : World} {B : Nat} {e : TypeId} {sz : Nat} {v : Value} {n : Nat} {xs : List Value} (h : w.ownsRow B e sz v n xs) {p : Addr} (hp : v.ownBlock ≠ some p.block) (u : Value) : (w.setCell p u).ownsRow B e sz v n xs := by
  refine ⟨h.1, ?_⟩
  rcases h.2 with h | ⟨g, cap, cur, hv, h1, h2, h3⟩
  · exact Or.inl h
  · exact Or.inr ⟨g, cap, cur, hv, h1, by rw [Below.heap_setCell w p u g (fun e => hp (by rw [hv, e]; rfl))]; exact h2, h3⟩
def sliceN : Value → Nat
  | .slice _ n _ => n
  | _ => 0
set_option maxHeartbeats 4000000 in
set_option maxRecDepth 100000 in
theorem results_any {w : World} {rp : Nat} {ls : List Ln} {t : Ln} {k : Nat} (h : RdS w rp ls t k) (hf : Fine ls t k) (hg : GlAt w) (hrp : 4 < rp) :
    Calls Tryd.prog 82 #[.pointer (some ⟨rp, 0, none⟩)] w fun e w' => ∃ v, e = .returned v ∧ ResLs w' w.heap.size v (ressP rdN ls).1 ∧ RdS w' rp (ressP rdN ls).2 t (k + (ressP rdN ls).1.length) ∧ w.grownBy w' (some rp) := by
  obtain ⟨i0, hi, hz0, hz1, hz2⟩ := info_parts infRes
  have HF := Lib.hid hf
  have HG := Lib.hid hg
  have hlt := h.lt
  have HR0 := Lib.hid (result_any h hf hg)
  have HST := Lib.hid (ress_step ls)
  have HSL := Lib.hid (step_len ls)
  have HSF := Lib.hid (step_fine hf)
  obtain ⟨o, ho⟩ : ∃ o, o = (stepR ls).1 := ⟨_, rfl⟩
  obtain ⟨l2, hl2⟩ : ∃ l2, l2 = (stepR ls).2 := ⟨_, rfl⟩
  rw [← ho, ← hl2] at HR0 HST HSL HSF
  obtain ⟨S, hS⟩ : ∃ S, S = nmO o := ⟨_, rfl⟩
  obtain ⟨V, hV⟩ : ∃ V, V = vO o := ⟨_, rfl⟩
  rw [← hS, ← hV] at HR0
  have HSS := Lib.hid hS
  have HVV := Lib.hid hV
  clear h hf hg ho hl2 hS hV
  go_enter Tryd.func82, Tryd.ntmps82
  go_wp2_with fail
  refine HR0.out.mono ?_
  rintro e w1 ⟨rfl, r1, g1⟩
  have R1 := Lib.hid r1
  have G1 := Lib.hid g1
  have hs1 := g1.size
  clear r1 g1
  go_wp2_with fail
  go_loopw [3, 4, 5] (fun v p m wr => ∃ (acc : List (Ln × Nat)) (o : Option (Ln × Nat)) (l2 : List Ln) (nb : Nat), p = .pointer (some ⟨nb, 0, none⟩) ∧ m = .bool o.isSome ∧ w.heap.size ≤ nb ∧ v.ownBlock ≠ some nb ∧ Blk wr nb 49 #[.string (nmO o), .int .i64 (vO o)] ∧ ResLs wr w.heap.size v acc ∧ RdS wr rp l2 t (k + (acc.length + oneO o)) ∧ Fine l2 t (k + (acc.length + oneO o)) ∧ w.grownBy wr (some rp) ∧ acc.length + oneO o + l2.length = ls.length ∧ ressP rdN ls = (match o with
    | none => (acc, l2)
    | some x => (acc ++ x :: (ressP rdN l2).1, (ressP rdN l2).2))) (fun v _ _ _ => ls.length + 1 - sliceN v)
  case atStart =>
    refine ⟨[], o, l2, w1.heap.size, rfl, rfl, hs1, by simp [Value.ownBlock], ?_, ResLs.none _ _, ?_, ?_, gb_alloc G1.out _, ?_, ?_⟩
    · rw [← HSS.out, ← HVV.out]; exact Blk.new _ _ _
    · have h := R1.out
      simp only [List.length_nil, Nat.zero_add]
      exact Blk.alloc h _
    · simpa using HSF.out
    · simpa using HSL.out
    · rw [HST.out]; cases o <;> rfl
  case round =>
    obtain ⟨acc, o, l2, nb, rfl, rfl, hnb, hown, hblk, hres, hrd, hfi, hgb, hlen, hst⟩ := hrel
    obtain ⟨wo, hwo⟩ : ∃ wo, wo = wr := ⟨_, rfl⟩
    subst hwo
    have hsw := hgb.size
    cases o with
    | none =>
      have HE := Lib.hid hst
      have HRES := Lib.hid hres
      have HRD := Lib.hid hrd
      have HGB := Lib.hid hgb
      clear hst hres hrd hgb hblk hfi hown
      go_wp2
      refine bodyPost_ret (v := u3) (by simp [results, Tryd.results82, go_sem]) rfl ⟨u3, rfl, ?_, ?_, HGB.out⟩
      · rw [HE.out]; exact HRES.out
      · rw [HE.out]; exact HRD.out
    | some x =>
      have HE := Lib.hid hst
      have HGB := Lib.hid hgb
      have HFI := Lib.hid hfi
      have HRD := Lib.hid hrd
      have HB := Lib.hid hblk
      have HRES := Lib.hid hres
      obtain ⟨ao, cap, hv⟩ := hres.form
      subst hv
      have hown5 := hres
      unfold ResLs at hown5
      have hlo := World.ownsRow.lt hown5
      obtain ⟨z0, z1, z2, z3⟩ := blk2 hblk
      have hzl := hblk.lt
      have hcnt := hfi.cnt
      have hacc : acc.length ≤ 1000000 := by omega
      have hl2 : acc.length + 1 + l2.length = ls.length := hlen
      obtain ⟨X, hX⟩ : ∃ X, X = nmO (some x) := ⟨_, rfl⟩
      obtain ⟨XV, hXV⟩ : ∃ XV, XV = vO (some x) := ⟨_, rfl⟩
      rw [← hX] at z0
      rw [← hXV] at z1
      have HRV := Lib.hid (show resV x = [.string X, .int .i64 XV] by rw [hX, hXV]; rfl)
      clear hst hgb hfi hrd hblk hres hcnt hlen hX hXV
      go_wp2_with (at_builtin; refine wpList_append_own _ rfl _ _ 44 rfl w.heap.size 49 i0 (.agg #[.string ByteArray.empty, .int .i64 0]) 2 24 Tryd.underlying44 hi hz0 hz1 hz2 rfl (by decide) _ _ _ rfl (hown5.alloc _) ⟨wo.heap.size, 0, none⟩ 1 1 [.string X, .int .i64 XV] rfl rfl (World.news_of_block (cs := #[.string X, .int .i64 XV]) (t := 49) (fr := (0, 0)) (heap_alloc_new wo _)) (by simp [Value.oneCell']) ?c3 ?c4 ?c5 ?_)
      case c3 => unfold maxLen; omega
      case c4 => omega
      case c5 => first | omega | (simp; omega)
      intro v' w6 hown6 hgrow _
      have hlo6 := World.ownsRow.lt hown6
      have HG6 := Lib.hid (gb_step (gb_alloc HGB.out (.cells #[.string X, .int .i64 XV] 49)) hgrow (fun j hj => .inr (hlo j hj).1))
      have Z6 := Lib.hid ((HB.out.alloc (.cells #[.string X, .int .i64 XV] 49)).grown hgrow (fun e => hown e.symm))
      have R6 := Lib.hid ((show Blk _ rp 81 _ from Blk.alloc HRD.out (.cells #[.string X, .int .i64 XV] 49)).grown hgrow (fun e => by have := (hlo _ e.symm).1; omega))
      have HL6 := Lib.hid (show ResLs w6 w.heap.size v' (acc ++ [x]) by
        unfold ResLs resVs
        rw [List.length_append, List.flatMap_append]
        simp only [List.flatMap_cons, List.flatMap_nil, List.append_nil]
        rw [HRV.out]
        exact hown6)
      have hs6 := HG6.out.size
      obtain ⟨y0, y1, _, _⟩ := blk2 Z6.out
      have hzl6 := Z6.out.lt
      clear hgrow hown6 hown5 hlo hown z0 z1 z2 z3
      have HG7 := Lib.hid (HG.out.grown (gb_alloc HG6.out (.cells #[.string (nmO (some x)), .int .i64 (vO (some x))] 49)) (fun j hj => by injection hj with hj; omega))
      have HRA := Lib.hid (result_any (w := w6.alloc (.cells #[.string (nmO (some x)), .int .i64 (vO (some x))] 49)) (rp := rp) (ls := l2) (t := t) (Blk.alloc R6.out _) HFI.out HG7.out)
      have HST2 := Lib.hid (ress_step l2)
      have HSL2 := Lib.hid (step_len l2)
      have HSF2 := Lib.hid (step_fine HFI.out)
      obtain ⟨o3, ho3⟩ : ∃ o, o = (stepR l2).1 := ⟨_, rfl⟩
      obtain ⟨l3, hl3⟩ : ∃ l, l = (stepR l2).2 := ⟨_, rfl⟩
      rw [← ho3, ← hl3] at HRA HST2 HSL2 HSF2
      obtain ⟨S3, hS3⟩ : ∃ S, S = nmO o3 := ⟨_, rfl⟩
      obtain ⟨V3, hV3⟩ : ∃ V, V = vO o3 := ⟨_, rfl⟩
      rw [← hS3, ← hV3] at HRA
      have HSS3 := Lib.hid hS3
      have HVV3 := Lib.hid hV3
      have hb3 := Blk.new w6 49 #[.string (nmO (some x)), .int .i64 (vO (some x))]
      have HB3 := Lib.hid hb3
      clear hS3 hV3 ho3 hl3 hb3
      generalize nmO (some x) = X2 at y0 HRA HB3 HG7 Z6 HB
      generalize vO (some x) = XV2 at y1 HRA HB3 HG7 Z6 HB
      go_wp2_with fail
      refine HRA.out.mono ?_
      rintro e w8 ⟨rfl, r8, g8⟩
      have R8 := Lib.hid r8
      have G8 := Lib.hid (gb_trans (gb_alloc HG6.out _) g8)
      have Z8 := Lib.hid (HB3.out.grown g8 (fun e => by injection e with e; omega))
      have HL8 := Lib.hid (own_grown (World.ownsRow.alloc (show w6.ownsRow _ _ _ _ _ _ from HL6.out) _) g8 (fun j hj => by injection hj with hj; omega))
      obtain ⟨_, _, f0, f1⟩ := blk2 Z8.out
      have hz8 := Z8.out.lt
      have hs8 := g8.size
      have HNO := Lib.hid (show v'.ownBlock ≠ some w6.heap.size from fun e => by have := (hlo6 _ e).2; omega)
      clear r8 g8
      go_wp2
      go_roundw
      case rel =>
        refine ⟨acc ++ [x], o3, l3, w6.heap.size, rfl, rfl, hs6, HNO.out, ?_, ?_, ?_, ?_, gb_set (g := rp) (p := ⟨w6.heap.size, 1, none⟩) (gb_set (g := rp) (p := ⟨w6.heap.size, 0, none⟩) G8.out (.inr hs6) _) (.inr hs6) _, ?_, ?_⟩
        · rw [← HSS3.out, ← HVV3.out]
          exact (Z8.out.set_ 0 _).set_ 1 _
        · exact own_set (own_set HL8.out (p := ⟨w6.heap.size, 0, none⟩) HNO.out _) (p := ⟨w6.heap.size, 1, none⟩) HNO.out _
        · have e : k + ((acc ++ [x]).length + oneO o3) = k + (acc.length + oneO (some x)) + oneO o3 := by simp [oneO]; omega
          rw [e]
          exact Blk.far (Blk.far R8.out (p := ⟨w6.heap.size, 0, none⟩) (by simp; omega) _) (p := ⟨w6.heap.size, 1, none⟩) (by simp; omega) _
        · have e : k + ((acc ++ [x]).length + oneO o3) = k + (acc.length + oneO (some x)) + oneO o3 := by simp [oneO]; omega
          rw [e]
          exact HSF2.out
        · have := HSL2.out
          simp; omega
        · rw [HE.out, HST2.out]
          cases o3 with
          | none => rfl
          | some y => simp
      case measure =>
        obtain ⟨ao6, cap6, hv6⟩ := HL6.out.form
        rw [hv6]
        simp [sliceN]
        omega
end Go.Proofs.YtplenagncmhhoaaDoor
