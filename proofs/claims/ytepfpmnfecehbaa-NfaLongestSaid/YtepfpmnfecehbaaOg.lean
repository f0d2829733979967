/- nfa.Prog.ahead: a Cat. -/
import Derived.Test.YtepfpmnfecehbaaOf
namespace Go.Proofs.Ytepfpmnfecehbaa
open Go.RowKit Go.Maps

/-- Kids in memory beside a machine. -/
def KidsO (w : World) (X : Nat → Prop) (d n' : Nat) (A' : Option Addr) (kids : List Tr) : Prop := kids.length = n' ∧ (0 < n' → ∃ b o, A' = some ⟨b, o, none⟩ ∧ Off w X b ∧ ∀ (i : Nat) (t : Tr), kids[i]? = some t → ∃ v0 v1 v2, w.cell? ⟨b, o + i * 3, none⟩ = some v0 ∧ w.cell? ⟨b, o + i * 3 + 1, none⟩ = some v1 ∧ w.cell? ⟨b, o + i * 3 + 2, none⟩ = some v2 ∧ TreeAt w (Off w X) d t [v0, v1, v2])
/-- The states of the kids from j on. -/
def catR (d : Nat) (kids : List Tr) (nx : Nat) (S : List St) (j : Nat) : Nat × List St := (kids.drop j).foldr (fun t r => aheadT d t r.1 r.2) (nx, S)
section
variable {d : Nat} {kids : List Tr} {nx : Nat} {S : List St}
theorem catR_step {i : Nat} {t : Tr} (h : kids[i]? = some t) : catR d kids nx S i = aheadT d t (catR d kids nx S (i + 1)).1 (catR d kids nx S (i + 1)).2 := by
  have hlt := (List.getElem?_eq_some_iff.1 h)
  obtain ⟨hl, he⟩ := hlt
  unfold catR
  rw [List.drop_eq_getElem_cons hl, List.foldr_cons, he]
theorem catR_len (j : Nat) : (catR d kids nx S j).2.length ≤ S.length + ((kids.drop j).map (nodesT d)).sum := by
  unfold catR
  generalize kids.drop j = ts
  induction ts with
  | nil => simp
  | cons t ts ih =>
    rw [List.foldr_cons, List.map_cons, List.sum_cons]
    have a := ahead_len d t (ts.foldr (fun t r => aheadT d t r.1 r.2) (nx, S)).1 (ts.foldr (fun t r => aheadT d t r.1 r.2) (nx, S)).2
    omega
theorem catR_start (j : Nat) : (catR d kids nx S j).1 = nx ∨ (catR d kids nx S j).1 < (catR d kids nx S j).2.length := by
  have := (ahead_ext (d + 1) (.mk 2 [] (kids.drop j)) nx S).start
  unfold aheadT at this
  rw [if_neg (by decide), if_pos rfl] at this
  rcases this with h | h
  · exact .inl h
  · exact .inr h.2
theorem sum_drop (j : Nat) : ((kids.drop j).map (nodesT d)).sum ≤ (kids.map (nodesT d)).sum := by
  conv => rhs; rw [← List.take_append_drop j kids, List.map_append, List.sum_append]
  omega
theorem sum_at {i : Nat} {t : Tr} (h : kids[i]? = some t) : nodesT d t + ((kids.drop (i + 1)).map (nodesT d)).sum ≤ (kids.map (nodesT d)).sum := by
  obtain ⟨hl, he⟩ := List.getElem?_eq_some_iff.1 h
  have := sum_drop (d := d) (kids := kids) i
  rw [List.drop_eq_getElem_cons hl, List.map_cons, List.sum_cons, he] at this
  exact this
end
set_option maxHeartbeats 400000 in
set_option maxRecDepth 100000 in
theorem ahead2_any {d : Nat} (IH : AhIH d) (rs : List (UInt8 × UInt8)) (kids : List Tr) (A A' : Option Addr) (n c n' c' : Nat) (w : World) (X : Nat → Prop) (pp : Nat) (start steps : Int) (S : List St) (nx : Nat)
    (hk : KidsO w X d n' A' kids) (hn : n' ≤ maxLen) (hg : ∀ t, t ∈ kids → GoodT d t) (hm : Mach w X pp start steps S) (hnx : nx ≤ 90000) (hl : S.length + (kids.map (nodesT d)).sum ≤ 90000) :
    Calls Try.prog 53 #[.pointer (some ⟨pp, 0, none⟩), .agg #[.int .i64 2, .slice A n c, .slice A' n' c'], .int .i64 (nx : Nat)] w (AhPost w X pp start steps (aheadT (d + 1) (.mk 2 rs kids) nx S)) := by
  have HT : aheadT (d + 1) (.mk 2 rs kids) nx S = catR d kids nx S 0 := by unfold aheadT catR; rw [if_neg (by decide), if_pos rfl, List.drop_zero]
  rw [HT]
  clear HT
  unfold maxLen at hn
  have hkl := hk.1
  have b0 : Below w.heap.size w (w.alloc (.cells #[.int .i64 2, .slice A n c, .slice A' n' c'] 26)) := (Below.refl _ w).alloc (Nat.le_refl _) _
  have k0 : Blk (w.alloc (.cells #[.int .i64 2, .slice A n c, .slice A' n' c'] 26)) w.heap.size 26 #[.int .i64 2, .slice A n c, .slice A' n' c'] := Blk.new w _ _
  have hs0 : (w.alloc (.cells #[.int .i64 2, .slice A n c, .slice A' n' c'] 26)).heap.size = w.heap.size + 1 := by simp
  have hRn : catR d kids nx S n' = (nx, S) := by unfold catR; rw [List.drop_of_length_le (by omega)]; rfl
  have HRS := Lib.hid (fun (i : Nat) (t : Tr) (h : kids[i]? = some t) => catR_step (d := d) (nx := nx) (S := S) h)
  have HRL := Lib.hid (fun j => catR_len (d := d) (kids := kids) (nx := nx) (S := S) j)
  have HRT := Lib.hid (fun j => catR_start (d := d) (kids := kids) (nx := nx) (S := S) j)
  have HSA := Lib.hid (fun (i : Nat) (t : Tr) (h : kids[i]? = some t) => sum_at (d := d) h)
  have HSD := Lib.hid (fun j => sum_drop (d := d) (kids := kids) j)
  have HM0 := Lib.hid (show Mach (w.alloc (.cells #[.int .i64 2, .slice A n c, .slice A' n' c'] 26)) X pp start steps (catR d kids nx S n').2 by rw [hRn]; exact hm.below b0)
  have HN0 := Lib.hid (show (nx : Nat) = (catR d kids nx S n').1 by rw [hRn])
  have HK := Lib.hid hk
  have HIH := Lib.hid IH
  have HK0 := Lib.hid k0
  have hXl := Lib.hid (fun j (hj : X j) => hm.old hj)
  have HKP := Lib.hid (kept_alloc X w (.cells #[.int .i64 2, .slice A n c, .slice A' n' c'] 26))
  clear IH hk hm k0 b0 hRn
  generalize catR d kids nx S = R at *
  have hj0 : ((n' : Int) - 1) = ((n' : Nat) : Int) - 1 := rfl
  go_enter Try.func53, Try.ntmps53
  go_wp2_with fail
  go_loopw [2, 7] (fun vn va wr => ∃ (j : Nat) (Xr : Nat → Prop), j ≤ n' ∧ va = .int .i64 ((j : Int) - 1) ∧ vn = .int .i64 ((R j).1 : Nat) ∧ Mach wr Xr pp start steps (R j).2 ∧ (∀ x, Xr x → X x ∨ w.heap.size + 1 ≤ x) ∧ Kept X w wr ∧ Blk wr w.heap.size 26 #[.int .i64 2, .slice A n c, .slice A' n' c']) (fun _ va _ => (intOf va + 1).toNat)
  case atStart => exact ⟨n', X, Nat.le_refl _, rfl, by rw [← HN0.out], HM0.out, fun x hx => .inl hx, HKP.out, HK0.out⟩
  case round =>
    clear HM0 HN0 HKP HK0
    obtain ⟨j, Xr, hj, rfl, rfl, hm, hx, hkp, hb⟩ := hrel
    have hw2 : wr.cell? ⟨w.heap.size, 2, none⟩ = some (.slice A' n' c') := hb.cell 2
    have HB := Lib.hid hb
    have HM := Lib.hid hm
    have HKP := Lib.hid hkp
    have HX := Lib.hid hx
    clear hb hm hkp hx
    match j, hj with
    | 0, hj =>
      have HFIN := Lib.hid (show ∃ X', Mach wr X' pp start steps (R 0).2 ∧ (∀ j, X' j → X j ∨ w.heap.size ≤ j) ∧ Kept X w wr from ⟨Xr, HM.out, fun j hj => by
        rcases HX.out j hj with h | h
        · exact .inl h
        · exact .inr (by omega), HKP.out⟩)
      go_wp2
      go_ret
      exact ⟨rfl, HFIN.out⟩
    | i + 1, hj =>
      have e1 : (((i + 1 : Nat) : Int) - 1) = (i : Int) := by omega
      rw [e1]
      have hi0 : (0 : Int) ≤ (i : Int) := by omega
      have hi1 : (i : Int) < (n' : Int) := by omega
      obtain ⟨b, o, rfl, hbo, hcells⟩ := HK.out.2 (by omega)
      obtain ⟨t, htk⟩ : ∃ t, kids[i]? = some t := ⟨kids[i]'(by omega), List.getElem?_eq_getElem _⟩
      obtain ⟨v0, v1, v2, e0, e1', e2, htr⟩ := hcells i t htk
      have hbk := HKP.out.block b hbo.1 hbo.2
      replace e0 := (World.cell?_of_block (a := ⟨b, o + i * 3, none⟩) hbk).trans e0
      replace e1' := (World.cell?_of_block (a := ⟨b, o + i * 3 + 1, none⟩) hbk).trans e1'
      replace e2 := (World.cell?_of_block (a := ⟨b, o + i * 3 + 2, none⟩) hbk).trans e2
      have hxw : ∀ j, Xr j → X j ∨ w.heap.size ≤ j := fun j hj => by
        rcases HX.out j hj with h | h
        · exact .inl h
        · exact .inr (by omega)
      have HR := Lib.hid (HIH.out t v0 v1 v2 wr Xr pp start steps (R (i + 1)).2 (R (i + 1)).1 (tree_off htr HKP.out hxw) (hg t (List.mem_of_getElem? htk)) HM.out (by
        have := HRL.out (i + 1)
        have := HSD.out (i + 1)
        rcases HRT.out (i + 1) with h | h
        · rw [h]; exact hnx
        · omega) (by
        have := HRL.out (i + 1)
        have := HSA.out i t htk
        omega))
      rw [← HRS.out i t htk] at HR
      clear htr hcells htk hbk
      go_wp2_with fail
      refine HR.out.mono ?_
      rintro e w3 ⟨rfl, X3, hm3, hx3, hk3⟩
      have hs3 := HKP.out.size
      have hnb : ¬ Xr w.heap.size := fun hx => by
        rcases HX.out _ hx with h | h
        · have := hXl.out _ h; omega
        · omega
      have HM3 := Lib.hid hm3
      have HX3 := Lib.hid (show ∀ x, X3 x → X x ∨ w.heap.size + 1 ≤ x from fun x hx => by
        rcases hx3 x hx with h | h
        · exact HX.out x h
        · have := HB.out.lt; exact .inr (by omega))
      have HB3 := Lib.hid (show Blk w3 w.heap.size 26 #[.int .i64 2, .slice A n c, .slice (some ⟨b, o, none⟩) n' c'] from (hk3.block _ HB.out.lt hnb).trans HB.out)
      have HK3 := Lib.hid (HKP.out.trans hk3 hxw)
      clear hm3 hx3 hk3 HR
      go_wp2
      go_roundw
      case rel => exact ⟨i, X3, by omega, by go_num, rfl, HM3.out, HX3.out, HK3.out, HB3.out⟩
      case measure => simp [intOf]
end Go.Proofs.Ytepfpmnfecehbaa
