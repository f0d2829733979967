/- Crash. -/
import Derived.Test.YtdhiofbimebbkaaDoorVm
import Derived.Test.YtdhiofbimebbkaaDoorVk
import Derived.Test.YtdhiofbimebbkaaDoorVl
namespace Go.Proofs.YtdhiofbimebbkaaDoor
open Go.RowKit Go.Maps Go.Sort

theorem row_open {w : World} {B : Nat} {e : TypeId} {v : Value} {n : Nat} {xs : List Value} (h : w.ownsRow B e 1 v n xs) : ∃ A c, v = .slice A n c ∧ (0 < n → ∃ g, A = some ⟨g, 0, none⟩ ∧ B ≤ g ∧ g < w.heap.size ∧ ∀ i u, xs[i]? = some u → w.cell? ⟨g, i, none⟩ = some u) := by
  rcases h.2 with ⟨e, h0⟩ | ⟨g, cap, cur, e, hB, hg, _, _, h3, h4⟩
  · exact ⟨none, 0, by rw [h0]; exact e, fun hm => by omega⟩
  · refine ⟨_, cap, e, fun _ => ⟨g, rfl, hB, (Array.getElem?_eq_some_iff.1 hg).1, fun i u hi => ?_⟩⟩
    rw [cell_of_row w g i cur _ (0, 0) hg]
    have h5 : (cur.toList.take (n * 1))[i]? = some u := by rw [h4]; exact hi
    have hl := (List.getElem?_eq_some_iff.1 hi).1
    rw [h.1] at hl
    rw [List.getElem?_take_of_lt (by omega)] at h5
    rw [← Array.getElem?_toList]
    exact h5
def CInv (ks : List Int) (V : List (List UInt8 × List UInt8 × Nat)) (free dp bm : Nat) (X : Nat → Prop) (w0 : World) (nx i : Value) (wr : World) : Prop := ∃ (j : Nat) (M' : List Fl) (fr : Nat), j ≤ V.length ∧ i = .int .i64 (j : Nat) ∧ nx = .int .i64 (((crL ks 0 (V.take j)).2 : Nat) : Int) ∧ FsAt wr dp bm M' fr 0 false ∧
  M'.map vw = (crL ks 0 (V.take j)).1 ++ V.drop j ∧ fr + tot (M'.map vw) = free + tot V ∧ (∀ j, Own dp bm M' j → X j) ∧ Kept X w0 wr
theorem crL_tot (ks : List Int) : ∀ (nx : Nat) (V : List (List UInt8 × List UInt8 × Nat)), tot (crL ks nx V).1 ≤ tot V
  | _, [] => Nat.le_refl _
  | nx, a :: r => by
    simp only [crL]
    rw [tot_cons, tot_cons]
    have h1 := crL_tot ks (cr1 ks nx a).2 r
    have h2 : (cr1 ks nx a).1.2.1.length ≤ a.2.1.length := by
      unfold cr1
      split
      · exact Nat.le_refl _
      · show (a.2.1.take _).length ≤ _
        rw [List.length_take]; omega
    omega
section
variable {w : World} {dp bm free fuse : Nat} {M : List Fl} {down : Bool}
theorem FsAt.sync_set (h : FsAt w dp bm M free fuse down) {f : Fl} (hf : f ∈ M) : FsAt (w.setCell ⟨f.fb, 1, none⟩ (.int .i64 (f.bytes.length : Nat))) dp bm (updF (syncF f) M) free fuse down := by
  refine h.turn hf rfl rfl ⟨?_, ?_, Nat.le_refl _⟩ (fun j _ hj _ => Below.heap_setCell _ _ _ _ hj) fun r hr => .inl hr
  · exact Blk.set_ (h.files f hf).1 1 _
  · exact (h.files f hf).2.1.kept (gb_set (g := f.fb) (gb_refl w _) (p := ⟨f.fb, 1, none⟩) (.inl rfl) _) (.inr (h.ap.2.2 f hf f hf))
theorem mem_upd_self {x f : Fl} (hf : f ∈ M) (hn : x.name = f.name) : x ∈ updF x M := by
  unfold updF
  exact List.mem_map.2 ⟨f, hf, by simp [hn]⟩
theorem own_sync {f : Fl} (hf : f ∈ M) {j : Nat} (h : Own dp bm (updF (syncF f) M) j) : Own dp bm M j := by
  rcases h with h | h | ⟨g, hg, h⟩
  · exact .inl h
  · exact .inr (.inl h)
  · rcases mem_upd hg with rfl | ⟨hg, _⟩
    · exact .inr (.inr ⟨f, hf, h⟩)
    · exact .inr (.inr ⟨g, hg, h⟩)
/-- A file is cut to m bytes, all of them safe: the disk, its view. -/
theorem cut_sync {w3 : World} {fr m j : Nat} {M' : List Fl} {f : Fl} {P R : List (List UInt8 × List UInt8 × Nat)} (hr : Rise M') (hj : M'[j]? = some f) (hm : m ≤ f.bytes.length) (hv : M'.map vw = P ++ vw f :: R) (hP : P.length = j)
    (hF3 : FsAt w3 dp bm (updF (cutF f m) M') (fr + (f.bytes.length - m)) 0 false) :
    ∃ M4, FsAt (w3.setCell ⟨f.fb, 1, none⟩ (.int .i64 (m : Nat))) dp bm M4 (fr + (f.bytes.length - m)) 0 false ∧ M4.map vw = P ++ (f.name, f.bytes.take m, m) :: R ∧ (∀ j, Own dp bm M4 j → Own dp bm M' j) := by
  have hf : f ∈ M' := List.mem_of_getElem? hj
  have hc : cutF f m ∈ updF (cutF f m) M' := mem_upd_self hf rfl
  have hl : (f.bytes.take m).length = m := by rw [List.length_take]; omega
  have h4 := hF3.sync_set hc
  rw [show ((cutF f m).bytes.length) = m from hl] at h4
  refine ⟨_, h4, ?_, fun j hj => own_cut hf (own_sync hc hj)⟩
  rw [map_upd, map_upd, hv]
  have e1 : vset (vw (cutF f m)) (P ++ vw f :: R) = P ++ vw (cutF f m) :: R := by
    have := congrArg (List.map vw) (upd_set hr hj (x := cutF f m) rfl)
    rw [map_upd, List.map_set, hv, ← hP, set_mid] at this
    exact this
  rw [e1]
  have hr2 := hr.upd (cutF f m)
  have hj2 : (updF (cutF f m) M')[j]? = some (cutF f m) := by
    rw [upd_set hr hj (x := cutF f m) rfl, List.getElem?_set]
    have := (List.getElem?_eq_some_iff.1 hj).1
    simp [this]
  have h5 := congrArg (List.map vw) (upd_set hr2 hj2 (x := syncF (cutF f m)) rfl)
  rw [map_upd, List.map_set, map_upd, hv, e1, ← hP, set_mid] at h5
  rw [h5]
  have e6 : vw (syncF (cutF f m)) = (f.name, f.bytes.take m, m) := by
    unfold vw syncF cutF
    rw [Prod.mk.injEq, Prod.mk.injEq]
    exact ⟨rfl, rfl, hl⟩
  rw [e6]
theorem look_at {M' : List Fl} (hr : Rise M') {j : Nat} {f : Fl} (h : M'[j]? = some f) : look f.name M' = some f := hr.look (List.mem_of_getElem? h)
set_option maxHeartbeats 4000000 in
set_option maxRecDepth 100000 in
theorem crash_any (h : FsAt w dp bm M free fuse down) (A : Option Addr) (n c : Nat) (ks : List Int) (hk : IntsAt w A n ks) (hnk : n ≤ 9223372036854775807) (hka : 0 < n → ∀ b o, A = some ⟨b, o, none⟩ → ¬ Own dp bm M b) (hlen : M.length ≤ 1000000000) (hnm : ∀ f ∈ M, f.name.length ≤ maxLen) (hfr : free + tot (M.map vw) ≤ 9223372036854775807) :
    Calls Tryd.prog 11 #[.pointer (some ⟨dp, 0, none⟩), .slice A n c] w fun e w' => e = .returned (.tuple #[]) ∧ After w dp (Own dp bm M) (crashS ks ⟨M.map vw, free, fuse, down⟩) w' := by
  have hX0 : ∀ j, Own dp bm M j → j < w.heap.size := fun j hj => h.own_lt hj
  obtain ⟨t0, t1, t2, t3, e1, e2, e3⟩ := blk4 h.top
  have h2 := (h.set3 false).set2 0
  have HN := Lib.hid (names_any h2 hlen)
  have hkl := hk.1
  go_enter Tryd.func11, Tryd.ntmps11
  go_wp2_with fail
  refine HN.out.mono ?_
  rintro e w1 ⟨v, rfl, hrow, hb1⟩
  have hF1 := h2.below hb1
  have hK1 : Kept (Own dp bm M) w w1 := (((Kept.refl _ w).set_ (p := ⟨dp, 3, none⟩) (.inl (.inl rfl)) (.bool false)).set_ (p := ⟨dp, 2, none⟩) (.inl (.inl rfl)) (.int .i64 0)).trans (kept_below hb1) (fun j hj => .inl hj)
  obtain ⟨B, cb, rfl, hbn⟩ := row_open hrow
  have hsz : ((w.setCell ⟨dp, 3, none⟩ (.bool false)).setCell ⟨dp, 2, none⟩ (.int .i64 0)).heap.size = w.heap.size := by simp [World.setCell]
  rw [show (((w.setCell ⟨dp, 3, none⟩ (.bool false)).setCell ⟨dp, 2, none⟩ (.int .i64 ((0 : Nat) : Int))).heap.size) = w.heap.size from hsz] at hbn
  have hVl : (M.map vw).length = M.length := by simp
  have HNM := Lib.hid hnm
  have HK := Lib.hid hk
  have HKA := Lib.hid hka
  have HX0 := Lib.hid hX0
  clear HN hrow hb1 h2 hnm hk hka hX0 hsz
  go_wp2_with fail
  go_loopw [4, 18] (fun nx i wr => CInv ks (M.map vw) free dp bm (Own dp bm M) w1 nx i wr) (fun _ i _ => M.length - (intOf i).toNat)
  case atStart => exact ⟨0, M, free, Nat.zero_le _, rfl, rfl, hF1, rfl, rfl, fun _ h => h, Kept.refl _ _⟩
  case round =>
    obtain ⟨j, M', fr, hj, rfl, rfl, hF, hview, hfree, hown, hkp⟩ := hrel
    rw [hVl] at hj
    have hnx : (crL ks 0 ((M.map vw).take j)).2 ≤ ks.length := crL_next ks 0 _ (Nat.zero_le _)
    by_cases hlt : j < M.length
    · have hlt' : (j : Int) < (M.length : Int) := by omega
      have hj0 : (0 : Int) ≤ (j : Int) := by omega
      obtain ⟨t, htj⟩ : ∃ t, (M.map vw)[j]? = some t := ⟨(M.map vw)[j]'(by rw [hVl]; exact hlt), List.getElem?_eq_getElem _⟩
      obtain ⟨htk, hdr⟩ := take_succ_at htj
      have hPl : (crL ks 0 ((M.map vw).take j)).1.length = j := by rw [crL_length, List.length_take, hVl]; omega
      have hstep : crL ks 0 ((M.map vw).take (j + 1)) = ((crL ks 0 ((M.map vw).take j)).1 ++ [(cr1 ks (crL ks 0 ((M.map vw).take j)).2 t).1], (cr1 ks (crL ks 0 ((M.map vw).take j)).2 t).2) := by rw [htk, crL_snoc]
      obtain ⟨f, hfj, hft⟩ : ∃ f, M'[j]? = some f ∧ vw f = t := by
        have h1 : (M'.map vw)[j]? = some t := by rw [hview, hdr, List.getElem?_append_right (by omega), hPl, Nat.sub_self]; rfl
        rw [List.getElem?_map] at h1
        cases hM : M'[j]? with
        | none => rw [hM] at h1; cases h1
        | some f => rw [hM] at h1; exact ⟨f, rfl, by simpa using h1⟩
      subst hft
      have hv2 : M'.map vw = (crL ks 0 ((M.map vw).take j)).1 ++ vw f :: (M.map vw).drop (j + 1) := by rw [hview, hdr]
      have hfm : f ∈ M' := List.mem_of_getElem? hfj
      obtain ⟨f0, hf0, hf0e⟩ : ∃ f0, M[j]? = some f0 ∧ vw f0 = vw f := by
        rw [List.getElem?_map] at htj
        cases hM : M[j]? with
        | none => rw [hM] at htj; cases htj
        | some f0 => rw [hM] at htj; exact ⟨f0, rfl, by simpa using htj⟩
      have hname : f0.name = f.name := congrArg Prod.fst hf0e
      have hnl : (⟨f.name.toArray⟩ : ByteArray).size ≤ maxLen := by
        have := HNM.out f0 (List.mem_of_getElem? hf0)
        rw [hname] at this
        simpa [ByteArray.size] using this
      obtain ⟨g, rfl, hgB, hgl, hgc⟩ := hbn (by omega)
      have hgX : ¬ Own dp bm M g := fun ho => by have := HX0.out g ho; omega
      have yn : wr.cell? ⟨g, j, none⟩ = some (.string ⟨f.name.toArray⟩) := by
        rw [World.cell?_of_block (a := ⟨g, j, none⟩) (hkp.block g hgl hgX)]
        refine hgc j _ ?_
        rw [List.getElem?_map, List.getElem?_map, hf0]
        simp [hname]
      have T0 : wr.cell? ⟨dp, 0, none⟩ = some (.map (some bm)) := hF.top.cell 0
      have hLk := hF.lookup ⟨f.name.toArray⟩ hnl
      rw [show (⟨f.name.toArray⟩ : ByteArray).data.toList = f.name by simp, look_at hF.rise hfj] at hLk
      have hL' : (Instr.lookup 47 (.map (some bm)) (.string ⟨f.name.toArray⟩) false).run Tryd.prog wr = .ok (.pointer (some ⟨f.fb, 0, none⟩)) wr := hLk
      have hFA := hF.files f hfm
      obtain ⟨Ar, cr, hfv, hnc, hcm⟩ := row_shape hFA.2.1
      have hB := hFA.1
      have hsl := hFA.2.2
      rw [hfv] at hB
      have b0 : wr.cell? ⟨f.fb, 0, none⟩ = some (.slice Ar f.bytes.length cr) := hB.cell 0
      have b1 : wr.cell? ⟨f.fb, 1, none⟩ = some (.int .i64 (f.safe : Nat)) := hB.cell 1
      have hfl : fr + f.bytes.length ≤ 9223372036854775807 := by
        have h1 := tot_mem (V := M'.map vw) (List.mem_map.2 ⟨f, hfm, rfl⟩)
        have h2 : (vw f).2.1.length = f.bytes.length := rfl
        omega
      have hbl : f.bytes.length ≤ 9223372036854775807 := by omega
      have HST := Lib.hid hstep
      have HV2 := Lib.hid hv2
      have HPL := Lib.hid hPl
      have HFV := Lib.hid hfv
      have HVL := Lib.hid hVl
      have HFR := Lib.hid hfree
      have HFJ := Lib.hid hfj
      have HFF := Lib.hid hF
      have HOW := Lib.hid hown
      have HKP := Lib.hid hkp
      clear hLk hgc hgB hFA hB htk hdr htj hview hf0 hf0e hname hstep hv2 hPl hfv hVl hfree hfj hF hown hkp hbn HNM HX0 hgl hgX hnl f0 h t0 t1 t2 t3 e1 e2 e3 hF1
      by_cases heq : f.safe = f.bytes.length
      · have heqI : (f.safe : Int) = (f.bytes.length : Int) := by omega
        have heqB : ((f.safe : Int) == (f.bytes.length : Int)) = true := by simpa using heqI
        have hcr : cr1 ks (crL ks 0 ((M.map vw).take j)).2 (vw f) = (vw f, (crL ks 0 ((M.map vw).take j)).2) := by
          unfold cr1; exact if_pos heq
        have HEQ := Lib.hid heq
        have HCR := Lib.hid hcr
        clear heq heqI hcr
        go_wp2
        go_quiet (fail)
        go_wp2
        go_roundw
        case rel =>
          refine ⟨j + 1, M', fr, by rw [HVL.out]; omega, by go_num, ?_, HFF.out.drewN _, ?_, HFR.out, HOW.out, HKP.out.drewN _⟩
          · rw [HST.out, HCR.out]
          · rw [HV2.out, HST.out, HCR.out]; simp
        case measure => simp [intOf]; omega
      · have hneI : (f.safe : Int) ≠ (f.bytes.length : Int) := by omega
        have hneB : ((f.safe : Int) == (f.bytes.length : Int)) = false := by simpa using hneI
        have hne1 : ¬ (vw f).2.2 = (vw f).2.1.length := heq
        obtain ⟨m, hmd⟩ : ∃ m, m = crN ks (crL ks 0 ((M.map vw).take j)).2 (vw f) := ⟨_, rfl⟩
        have hcr : (cr1 ks (crL ks 0 ((M.map vw).take j)).2 (vw f)).1 = (f.name, f.bytes.take m, m) := by
          unfold cr1; rw [if_neg hne1, ← hmd]; rfl
        have hnx2 : (cr1 ks (crL ks 0 ((M.map vw).take j)).2 (vw f)).2 = if (crL ks 0 ((M.map vw).take j)).2 < ks.length then (crL ks 0 ((M.map vw).take j)).2 + 1 else (crL ks 0 ((M.map vw).take j)).2 := by
          unfold cr1; rw [if_neg hne1]
        have hml : m ≤ f.bytes.length := by rw [hmd]; exact (crN_le ks _ (vw f) hsl).2
        have hms : f.safe ≤ m := by rw [hmd]; exact (crN_le ks _ (vw f) hsl).1
        have HCR := Lib.hid hcr
        clear hcr
        obtain ⟨nx, hnxd⟩ : ∃ nx, nx = (crL ks 0 ((M.map vw).take j)).2 := ⟨_, rfl⟩
        rw [← hnxd] at hmd hnx2 hnx ⊢
        by_cases hnk2 : nx < n
        · have hnkI : (nx : Int) < (n : Int) := by omega
          have hnx0 : (0 : Int) ≤ (nx : Int) := by omega
          rw [if_pos (by omega)] at hnx2
          obtain ⟨ab, ao, rfl, hal, hac⟩ := HK.out.2 (by omega)
          obtain ⟨k, hkk⟩ : ∃ k, ks[nx]? = some k := ⟨ks[nx]'(by omega), List.getElem?_eq_getElem _⟩
          have hmk : m = f.safe + min k.toNat (f.bytes.length - f.safe) := by rw [hmd]; unfold crN; rw [hkk]; rfl
          have haX := HKA.out (by omega) ab ao rfl
          have yk : wr.cell? ⟨ab, ao + nx, none⟩ = some (.int .i64 k) := by
            rw [World.cell?_of_block (a := ⟨ab, ao + nx, none⟩) ((HKP.out.block ab (Nat.lt_of_lt_of_le hal hK1.size) haX).trans (hK1.block ab hal haX))]
            exact hac nx k hkk
          have hsw : IntKind.i64.wrap ((f.bytes.length : Int) - (f.safe : Int)) = (f.bytes.length : Int) - (f.safe : Int) := IntWalk.i64_in _ (by omega)
          have HNX := Lib.hid hnx2
          have HND := Lib.hid hnxd
          have mixed : Tryd.prog.follows .mixedOrders = true := by kernel_rfl
          have hkb := Nat.min_le_right k.toNat (f.bytes.length - f.safe)
          clear hnx2 hmd hac hkk hne1 heq hnxd HKA HK
          have hmI : ((m : Nat) : Int) = (f.safe : Int) + min (max k 0) ((f.bytes.length : Int) - (f.safe : Int)) := by rw [hmk]; omega
          have hsw2 : IntKind.i64.wrap ((f.safe : Int) + min (max k 0) ((f.bytes.length : Int) - (f.safe : Int))) = (f.safe : Int) + min (max k 0) ((f.bytes.length : Int) - (f.safe : Int)) := IntWalk.i64_in _ (by omega)
          have HS := Lib.hid (fun W (hW : FsAt W dp bm M' fr 0 false) => shorten_any hW hfm m hml hfl)
          rw [hmI] at HS
          clear hmI hmk hkb
          go_wp2
          go_quiet (fail)
          go_wp2_with fail
          refine wp_region_held_drew (S := fun W => W.cell? ⟨ab, ao + nx, none⟩ = some (.int .i64 k) ∧ W.cell? ⟨f.fb, 0, none⟩ = some (.slice Ar f.bytes.length cr) ∧ W.cell? ⟨f.fb, 1, none⟩ = some (.int .i64 (f.safe : Nat))) mixed ⟨yk, b0, b1⟩ (fun hS => ?_)
          refine wpAnyH_take (i := 0) (v := .slice (some ⟨ab, ao, none⟩) n c) rfl (by kernel_rfl) (by kernel_rfl) (by kernel_rfl) (fun _ _ _ h => h) (Or.inl ⟨by rfl, fun W hW => by obtain ⟨h0, h1, h2⟩ := hW; go_simp⟩) hS ?_
          refine wpAnyH_take (i := 1) (v := .int .i64 (nx : Nat)) rfl (by kernel_rfl) (by kernel_rfl) (by kernel_rfl) (fun _ _ _ h => h) (Or.inl ⟨by rfl, fun W hW => by obtain ⟨h0, h1, h2⟩ := hW; go_simp⟩) hS ?_
          refine wpAnyH_take (i := 2) (v := .pointer (some ⟨ab, ao + nx, none⟩)) rfl (by kernel_rfl) (by kernel_rfl) (by kernel_rfl) (fun _ _ _ h => h) (Or.inl ⟨by rfl, fun W hW => by obtain ⟨h0, h1, h2⟩ := hW; go_simp⟩) hS ?_
          refine wpAnyH_take (i := 3) (v := .int .i64 k) rfl (by kernel_rfl) (by kernel_rfl) (by kernel_rfl) (fun _ _ _ h => h) (Or.inl ⟨by rfl, fun W hW => by obtain ⟨h0, h1, h2⟩ := hW; go_simp⟩) hS ?_
          refine wpAnyH_take (i := 5) (v := .pointer (some ⟨f.fb, 0, none⟩)) rfl (by kernel_rfl) (by kernel_rfl) (by kernel_rfl) (fun _ _ _ h => h) (Or.inl ⟨by rfl, fun W hW => by obtain ⟨h0, h1, h2⟩ := hW; go_simp⟩) hS ?_
          refine wpAnyH_take (i := 6) (v := .pointer (some ⟨f.fb, 0, none⟩)) rfl (by kernel_rfl) (by kernel_rfl) (by kernel_rfl) (fun _ _ _ h => h) (Or.inl ⟨by rfl, fun W hW => by obtain ⟨h0, h1, h2⟩ := hW; go_simp⟩) hS ?_
          refine wpAnyH_take (i := 7) (v := .pointer (some ⟨f.fb, 0, none⟩)) rfl (by kernel_rfl) (by kernel_rfl) (by kernel_rfl) (fun _ _ _ h => h) (Or.inl ⟨by rfl, fun W hW => by obtain ⟨h0, h1, h2⟩ := hW; go_simp⟩) hS ?_
          refine wpAnyH_take (i := 8) (v := .slice Ar f.bytes.length cr) rfl (by kernel_rfl) (by kernel_rfl) (by kernel_rfl) (fun _ _ _ h => h) (Or.inl ⟨by rfl, fun W hW => by obtain ⟨h0, h1, h2⟩ := hW; go_simp⟩) hS ?_
          refine wpAnyH_take (i := 9) (v := .int .i64 (f.bytes.length : Nat)) rfl (by kernel_rfl) (by kernel_rfl) (by kernel_rfl) (fun _ _ _ h => h) (Or.inl ⟨by rfl, fun W hW => by obtain ⟨h0, h1, h2⟩ := hW; go_simp⟩) hS ?_
          refine wpAnyH_take (i := 10) (v := .pointer (some ⟨f.fb, 0, none⟩)) rfl (by kernel_rfl) (by kernel_rfl) (by kernel_rfl) (fun _ _ _ h => h) (Or.inl ⟨by rfl, fun W hW => by obtain ⟨h0, h1, h2⟩ := hW; go_simp⟩) hS ?_
          refine wpAnyH_take (i := 11) (v := .pointer (some ⟨f.fb, 0, none⟩)) rfl (by kernel_rfl) (by kernel_rfl) (by kernel_rfl) (fun _ _ _ h => h) (Or.inl ⟨by rfl, fun W hW => by obtain ⟨h0, h1, h2⟩ := hW; go_simp⟩) hS ?_
          refine wpAnyH_take (i := 12) (v := .pointer (some ⟨f.fb, 1, none⟩)) rfl (by kernel_rfl) (by kernel_rfl) (by kernel_rfl) (fun _ _ _ h => h) (Or.inl ⟨by rfl, fun W hW => by obtain ⟨h0, h1, h2⟩ := hW; go_simp⟩) hS ?_
          refine wpAnyH_take (i := 13) (v := .int .i64 (f.safe : Nat)) rfl (by kernel_rfl) (by kernel_rfl) (by kernel_rfl) (fun _ _ _ h => h) (Or.inl ⟨by rfl, fun W hW => by obtain ⟨h0, h1, h2⟩ := hW; go_simp⟩) hS ?_
          refine wpAnyH_take (i := 14) (v := .int .i64 ((f.bytes.length : Int) - (f.safe : Int))) rfl (by kernel_rfl) (by kernel_rfl) (by kernel_rfl) (fun _ _ _ h => h) (Or.inl ⟨by rfl, fun W hW => by obtain ⟨h0, h1, h2⟩ := hW; go_simp⟩) hS ?_
          refine wpAnyH_ready (rs := [4]) (by kernel_rfl) (by simp) ?_
          refine AllReadyH.cons rfl (fun K hK => ?_) AllReadyH.nil
          go_simp
          refine hK.out _ _ hS (fun hS => ?_)
          clear hK K
          refine wpAnyH_ready (rs := [15]) (by kernel_rfl) (by simp) ?_
          refine AllReadyH.cons rfl (fun K hK => ?_) AllReadyH.nil
          go_simp
          refine hK.out _ _ hS (fun hS => ?_)
          clear hK K
          refine wpAnyH_ready (rs := [16]) (by kernel_rfl) (by simp) ?_
          refine AllReadyH.cons rfl (fun K hK => ?_) AllReadyH.nil
          go_simp
          refine hK.out _ _ hS (fun hS => ?_)
          clear hK K
          refine wpAnyH_done (by kernel_rfl) ?_ _
          clear hS
          go_wp2_with fail
          ((with_reducible refine (HS.out _ (HFF.out.drewN _)).mono ?_))
          rintro e w3 ⟨rfl, hF3, hK3⟩
          obtain ⟨M4, hF4, hv4, ho4⟩ := cut_sync HFF.out.rise HFJ.out hml HV2.out HPL.out hF3
          have hcf : cutF f m ∈ updF (cutF f m) M' := mem_upd_self hfm rfl
          have hB3 := (hF3.files _ hcf).1
          have hcv : (cutF f m).v = .slice Ar m cr := by unfold cutF cutV; rw [HFV.out]
          rw [hcv] at hB3
          have z0 : w3.cell? ⟨f.fb, 0, none⟩ = some (.slice Ar m cr) := hB3.cell 0
          have z1 : w3.cell? ⟨f.fb, 1, none⟩ = some (.int .i64 ((cutF f m).safe : Nat)) := hB3.cell 1
          have z2 : w3.frozen? ⟨f.fb, 1, none⟩ = false := hB3.frozen 1
          have HF4 := Lib.hid hF4
          have HK3 := Lib.hid hK3
          clear hF3 hF4 hK3 hB3 hcv
          go_wp2
          go_roundw
          case rel =>
            refine ⟨j + 1, M4, fr + (f.bytes.length - m), by rw [HVL.out]; omega, by go_num, ?_, HF4.out, ?_, ?_, fun k hk => HOW.out k (ho4 k hk), ?_⟩
            · rw [HST.out]; rw [← HND.out, HNX.out]; go_num
            · rw [hv4, HST.out, HCR.out]; simp
            · rw [hv4, tot_app, tot_cons]
              have h7 := HFR.out
              rw [HV2.out, tot_app, tot_cons] at h7
              have h8 : (f.bytes.take m).length = m := by rw [List.length_take]; omega
              have h9 : (vw f).2.1.length = f.bytes.length := rfl
              show fr + (f.bytes.length - m) + (tot ((crL ks 0 ((M.map vw).take j)).1) + ((f.bytes.take m).length + tot ((M.map vw).drop (j + 1)))) = _
              rw [h8]
              omega
            · exact ((HKP.out.drewN _).trans (HK3.out) (fun k hk => .inl (HOW.out k hk))).set_ (p := ⟨f.fb, 1, none⟩) (.inl (HOW.out _ (.inr (.inr ⟨f, hfm, .inl rfl⟩)))) _
          case measure => simp [intOf]; omega
        · have hnkI : ¬ (nx : Int) < (n : Int) := by omega
          rw [if_neg (by omega)] at hnx2
          have hkk : ks[nx]? = none := List.getElem?_eq_none (by omega)
          have hmk : m = f.safe := by rw [hmd]; unfold crN; rw [hkk]; rfl
          have HNX := Lib.hid hnx2
          have HND := Lib.hid hnxd
          have hsw2 : IntKind.i64.wrap (f.safe : Int) = (f.safe : Int) := IntWalk.i64_in _ (by omega)
          have HS := Lib.hid (fun W (hW : FsAt W dp bm M' fr 0 false) => shorten_any hW hfm m hml hfl)
          rw [show ((m : Nat) : Int) = (f.safe : Int) by omega] at HS
          clear hnx2 hmd hkk hne1 heq hmk hnxd HKA HK
          go_wp2
          go_quiet (fail)
          go_wp2_with fail
          ((with_reducible refine (HS.out _ (HFF.out.drewN _)).mono ?_))
          rintro e w3 ⟨rfl, hF3, hK3⟩
          obtain ⟨M4, hF4, hv4, ho4⟩ := cut_sync HFF.out.rise HFJ.out hml HV2.out HPL.out hF3
          have hcf : cutF f m ∈ updF (cutF f m) M' := mem_upd_self hfm rfl
          have hB3 := (hF3.files _ hcf).1
          have hcv : (cutF f m).v = .slice Ar m cr := by unfold cutF cutV; rw [HFV.out]
          rw [hcv] at hB3
          have z0 : w3.cell? ⟨f.fb, 0, none⟩ = some (.slice Ar m cr) := hB3.cell 0
          have z1 : w3.cell? ⟨f.fb, 1, none⟩ = some (.int .i64 ((cutF f m).safe : Nat)) := hB3.cell 1
          have z2 : w3.frozen? ⟨f.fb, 1, none⟩ = false := hB3.frozen 1
          have HF4 := Lib.hid hF4
          have HK3 := Lib.hid hK3
          clear hF3 hF4 hK3 hB3 hcv
          go_wp2
          go_roundw
          case rel =>
            refine ⟨j + 1, M4, fr + (f.bytes.length - m), by rw [HVL.out]; omega, by go_num, ?_, HF4.out, ?_, ?_, fun k hk => HOW.out k (ho4 k hk), ?_⟩
            · rw [HST.out]; rw [← HND.out, HNX.out]
            · rw [hv4, HST.out, HCR.out]; simp
            · rw [hv4, tot_app, tot_cons]
              have h7 := HFR.out
              rw [HV2.out, tot_app, tot_cons] at h7
              have h8 : (f.bytes.take m).length = m := by rw [List.length_take]; omega
              have h9 : (vw f).2.1.length = f.bytes.length := rfl
              show fr + (f.bytes.length - m) + (tot ((crL ks 0 ((M.map vw).take j)).1) + ((f.bytes.take m).length + tot ((M.map vw).drop (j + 1)))) = _
              rw [h8]
              omega
            · exact ((HKP.out.drewN _).trans (HK3.out) (fun k hk => .inl (HOW.out k hk))).set_ (p := ⟨f.fb, 1, none⟩) (.inl (HOW.out _ (.inr (.inr ⟨f, hfm, .inl rfl⟩)))) _
          case measure => simp [intOf]; omega
    · have hlt' : ¬ (j : Int) < (M.length : Int) := by omega
      obtain rfl : M.length = j := by omega
      have hall : (M.map vw).take M.length = M.map vw := List.take_of_length_le (by rw [hVl]; exact Nat.le_refl _)
      have hdrop : (M.map vw).drop M.length = [] := List.drop_eq_nil_of_le (by rw [hVl]; exact Nat.le_refl _)
      rw [hall, hdrop, List.append_nil] at hview
      have HV := Lib.hid hview
      have HFr := Lib.hid hfree
      clear hview hfree hall hdrop hnx
      go_wp2
      go_end0
      refine ⟨rfl, _, ⟨bm, M', ?_, HV.out, rfl⟩, fun k hk => .inl (hown k hk), hK1.trans hkp (fun k hk => .inl hk)⟩
      have h1 := HFr.out
      have h2 := crL_tot ks 0 (M.map vw)
      rw [HV.out] at h1
      show FsAt wr dp bm M' (free + (tot (M.map vw) - tot (crL ks 0 (M.map vw)).1)) 0 false
      rw [show free + (tot (M.map vw) - tot (crL ks 0 (M.map vw)).1) = fr by omega]
      exact hF
end
end Go.Proofs.YtdhiofbimebbkaaDoor
