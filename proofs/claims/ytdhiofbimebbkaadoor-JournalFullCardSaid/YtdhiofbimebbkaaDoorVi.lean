/- drop; Remove. -/
import Derived.Test.YtdhiofbimebbkaaDoorVf
namespace Go.Proofs.YtdhiofbimebbkaaDoor
open Go.RowKit Go.Maps

section
variable {w : World} {dp bm free fuse : Nat} {M : List Fl} {down : Bool}
/-- The disk without a file. -/
theorem FsAt.without {w' : World} {n : Nat} (h : FsAt w dp bm M free fuse down) (hg : w.grownBy w' (some bm)) (nm : List UInt8) (hmp : w'.ownsMap Tryd.prog 9 ptrElem bm n (dOf (delF nm M))) : FsAt w' dp bm (delF nm M) free fuse down :=
  h.remap hg hmp (h.rise.del nm) (fun f hf => h.files f (mem_del.1 hf).1) (fun f hf g hg => h.fbs f (mem_del.1 hf).1 g (mem_del.1 hg).1) (fun f hf g hg => h.rbs f (mem_del.1 hf).1 g (mem_del.1 hg).1)
theorem own_del {nm : List UInt8} {j : Nat} (h : Own dp bm (delF nm M) j) : Own dp bm M j := by
  rcases h with h | h | ⟨f, hf, h⟩
  · exact .inl h
  · exact .inr (.inl h)
  · exact .inr (.inr ⟨f, (mem_del.1 hf).1, h⟩)
def dropN : Option Fl → Nat
  | some f => f.bytes.length
  | none => 0
set_option maxHeartbeats 2000000 in
set_option maxRecDepth 100000 in
theorem drop_any (h : FsAt w dp bm M free fuse down) (s : ByteArray) (hs : s.size ≤ maxLen) (hfr : free + dropN (look s.data.toList M) ≤ 9223372036854775807) :
    Calls Tryd.prog 39 #[.pointer (some ⟨dp, 0, none⟩), .string s] w fun e w' => e = .returned (.tuple #[]) ∧ FsAt w' dp bm (delF s.data.toList M) (free + dropN (look s.data.toList M)) fuse down ∧ Kept (fun j => j = dp ∨ j = bm) w w' := by
  obtain ⟨c0, c1, c2, c3, f1, f2, f3⟩ := blk4 h.top
  have hL := h.lookup s hs
  cases hl : look s.data.toList M with
  | none =>
    rw [hl] at hL
    have hL' : (Instr.lookup 47 (.map (some bm)) (.string s) false).run Tryd.prog w = .ok (.pointer none) w := hL
    have HL := Lib.hid hl
    clear hL hl
    go_enter Tryd.func39, Tryd.ntmps39
    go_wp2
    go_end0
    exact ⟨rfl, by rw [del_none HL.out]; exact h, Kept.refl _ w⟩
  | some f =>
    have mixed : Tryd.prog.follows .mixedOrders = true := by kernel_rfl
    rw [hl] at hL hfr
    have hL' : (Instr.lookup 47 (.map (some bm)) (.string s) false).run Tryd.prog w = .ok (.pointer (some ⟨f.fb, 0, none⟩)) w := hL
    have hf := (look_mem hl).1
    obtain ⟨A, c, hv, hnc, hcm⟩ := row_shape (h.files f hf).2.1
    have hB := (h.files f hf).1
    rw [hv] at hB
    have b0 : w.cell? ⟨f.fb, 0, none⟩ = some (.slice A f.bytes.length c) := hB.cell 0
    have hwr : IntKind.i64.wrap ((free : Int) + (f.bytes.length : Int)) = (free : Int) + (f.bytes.length : Int) := IntWalk.i64_in _ (by have : dropN (some f) = f.bytes.length := rfl; omega)
    have hF1 := (h.drew).set1 (free + f.bytes.length)
    have hcast : ((free + f.bytes.length : Nat) : Int) = (free : Int) + (f.bytes.length : Int) := by omega
    rw [hcast] at hF1
    obtain ⟨w1, hrun, hmp, hturn⟩ := map_del hF1.mp s hs 0
    have HF := Lib.hid (hF1.without hturn.grown s.data.toList hmp)
    have HK := Lib.hid (show Kept (fun j => j = dp ∨ j = bm) w w1 from (((Kept.refl _ w).drew).set_ (p := ⟨dp, 1, none⟩) (.inl (.inl rfl)) _).grown hturn.grown (fun j hj => by cases hj; exact .inl (.inr rfl)))
    have hne : f.fb ≠ dp := (h.ap.2.1 f hf).1
    have HT := Lib.hid hF1.top
    have d0 : ((w.setCell ⟨dp, 1, none⟩ (.int .i64 ((free : Int) + (f.bytes.length : Int)))).drew).cell? ⟨dp, 0, none⟩ = some (.map (some bm)) := hF1.top.cell 0
    have hrun' : (Builtin.delete_ #[47, 9] 0 #[.map (some bm), .string s]).run Tryd.prog ((w.setCell ⟨dp, 1, none⟩ (.int .i64 ((free : Int) + (f.bytes.length : Int)))).drew) = .ok (.tuple #[]) w1 := hrun
    clear hL hl hfr hF1 hmp hturn hcast hrun
    go_enter Tryd.func39, Tryd.ntmps39
    go_wp2_with fail
    refine wp_region_held_drew (S := fun W => W.cell? ⟨f.fb, 0, none⟩ = some (.slice A f.bytes.length c)) mixed b0 (fun hS => ?_)
    refine wpAnyH_take (i := 0) (v := .pointer (some ⟨dp, 0, none⟩)) rfl (by kernel_rfl) (by kernel_rfl) (by kernel_rfl) (fun _ _ _ h => h) (Or.inl ⟨by rfl, fun W hW => by have h0 := hW; go_simp⟩) hS ?_
    refine wpAnyH_take (i := 1) (v := .pointer (some ⟨dp, 0, none⟩)) rfl (by kernel_rfl) (by kernel_rfl) (by kernel_rfl) (fun _ _ _ h => h) (Or.inl ⟨by rfl, fun W hW => by have h0 := hW; go_simp⟩) hS ?_
    refine wpAnyH_take (i := 2) (v := .pointer (some ⟨dp, 1, none⟩)) rfl (by kernel_rfl) (by kernel_rfl) (by kernel_rfl) (fun _ _ _ h => h) (Or.inl ⟨by rfl, fun W hW => by have h0 := hW; go_simp⟩) hS ?_
    refine wpAnyH_take (i := 4) (v := .pointer (some ⟨f.fb, 0, none⟩)) rfl (by kernel_rfl) (by kernel_rfl) (by kernel_rfl) (fun _ _ _ h => h) (Or.inl ⟨by rfl, fun W hW => by have h0 := hW; go_simp⟩) hS ?_
    refine wpAnyH_take (i := 5) (v := .pointer (some ⟨f.fb, 0, none⟩)) rfl (by kernel_rfl) (by kernel_rfl) (by kernel_rfl) (fun _ _ _ h => h) (Or.inl ⟨by rfl, fun W hW => by have h0 := hW; go_simp⟩) hS ?_
    refine wpAnyH_take (i := 6) (v := .pointer (some ⟨f.fb, 0, none⟩)) rfl (by kernel_rfl) (by kernel_rfl) (by kernel_rfl) (fun _ _ _ h => h) (Or.inl ⟨by rfl, fun W hW => by have h0 := hW; go_simp⟩) hS ?_
    refine wpAnyH_take (i := 7) (v := .slice A f.bytes.length c) rfl (by kernel_rfl) (by kernel_rfl) (by kernel_rfl) (fun _ _ _ h => h) (Or.inl ⟨by rfl, fun W hW => by have h0 := hW; go_simp⟩) hS ?_
    refine wpAnyH_take (i := 8) (v := .int .i64 (f.bytes.length : Nat)) rfl (by kernel_rfl) (by kernel_rfl) (by kernel_rfl) (fun _ _ _ h => h) (Or.inl ⟨by rfl, fun W hW => by have h0 := hW; go_simp⟩) hS ?_
    refine wpAnyH_ready (rs := [3]) (by kernel_rfl) (by simp) ?_
    refine AllReadyH.cons rfl (fun K hK => ?_) AllReadyH.nil
    go_simp
    refine hK.out _ _ hS (fun hS => ?_)
    clear hK K
    refine wpAnyH_ready (rs := [9]) (by kernel_rfl) (by simp) ?_
    refine AllReadyH.cons rfl (fun K hK => ?_) AllReadyH.nil
    go_simp
    refine hK.out _ _ hS (fun hS => ?_)
    clear hK K
    refine wpAnyH_take (i := 10) (v := .pointer (some ⟨dp, 0, none⟩)) rfl (by kernel_rfl) (by kernel_rfl) (by kernel_rfl) (fun _ _ _ h => h) (Or.inl ⟨by rfl, fun W hW => by have h0 := hW; go_simp⟩) hS ?_
    refine wpAnyH_take (i := 11) (v := .pointer (some ⟨dp, 1, none⟩)) rfl (by kernel_rfl) (by kernel_rfl) (by kernel_rfl) (fun _ _ _ h => h) (Or.inl ⟨by rfl, fun W hW => by have h0 := hW; go_simp⟩) hS ?_
    refine wpAnyH_ready (rs := [12]) (by kernel_rfl) (by simp) ?_
    refine AllReadyH.cons rfl (fun K hK => ?_) AllReadyH.nil
    go_simp
    refine hK.out _ _ ((World.cell?_of_block (a := ⟨f.fb, 0, none⟩) (Below.heap_setCell w.drew ⟨dp, 1, none⟩ _ f.fb hne)).trans b0) (fun hS => ?_)
    clear hK K
    refine wpAnyH_done (by kernel_rfl) ?_ _
    go_wp2
    go_end0
    exact ⟨rfl, HF.out, HK.out⟩
def removeS (nm : List UInt8) (s : Sta) : Int × Sta := onFile nm s fun t => stepS s fun s => { s with V := vdel nm s.V, free := s.free + t.2.1.length }
theorem own_two {j : Nat} (h : j = dp ∨ j = bm) : Own dp bm M j := by
  rcases h with h | h
  · exact .inl h
  · exact .inr (.inl h)
set_option maxRecDepth 100000 in
theorem remove1_any (h : FsAt w dp bm M free fuse down) (p0 p1 : Nat) (s : ByteArray) (hs : s.size ≤ maxLen) (c0 : w.cell? ⟨p0, 0, none⟩ = some (.pointer (some ⟨dp, 0, none⟩))) (c1 : w.cell? ⟨p1, 0, none⟩ = some (.string s)) (hfr : free + dropN (look s.data.toList M) ≤ 9223372036854775807) :
    Calls Tryd.prog 38 #[.pointer (some ⟨p0, 0, none⟩), .pointer (some ⟨p1, 0, none⟩)] w fun e w' => e = .returned (.tuple #[]) ∧ FsAt w' dp bm (delF s.data.toList M) (free + dropN (look s.data.toList M)) fuse down ∧ Kept (Own dp bm M) w w' := by
  have HD := Lib.hid (drop_any h s hs hfr)
  go_enter Tryd.func38, Tryd.ntmps38
  go_wp2_with fail
  refine HD.out.mono ?_
  rintro e w' ⟨rfl, hF, hK⟩
  go_wp2
  go_end0
  exact ⟨rfl, hF, hK.mono fun j _ hj => own_two hj⟩
set_option maxHeartbeats 1000000 in
set_option maxRecDepth 100000 in
theorem remove_any (h : FsAt w dp bm M free fuse down) (s : ByteArray) (hs : s.size ≤ maxLen) (hfr : ∀ f ∈ M, free + f.bytes.length ≤ 9223372036854775807) (hfu : fuse ≤ 9223372036854775807) :
    Calls Tryd.prog 20 #[.pointer (some ⟨dp, 0, none⟩), .string s] w (Res w dp (Own dp bm M) (removeS s.data.toList ⟨M.map vw, free, fuse, down⟩)) := by
  have h0 := (h.alloc (.cells #[.pointer (some ⟨dp, 0, none⟩)] 23)).alloc (.cells #[.string s] 9)
  have k0 : Kept (Own dp bm M) w ((w.alloc (.cells #[.pointer (some ⟨dp, 0, none⟩)] 23)).alloc (.cells #[.string s] 9)) := ((Kept.refl _ w).alloc _).alloc _
  have B0 : Blk ((w.alloc (.cells #[.pointer (some ⟨dp, 0, none⟩)] 23)).alloc (.cells #[.string s] 9)) w.heap.size 23 #[.pointer (some ⟨dp, 0, none⟩)] := (Blk.new w _ _).alloc _
  have B1 : Blk ((w.alloc (.cells #[.pointer (some ⟨dp, 0, none⟩)] 23)).alloc (.cells #[.string s] 9)) (w.heap.size + 1) 9 #[.string s] := by simpa using Blk.new (w.alloc (.cells #[.pointer (some ⟨dp, 0, none⟩)] 23)) 9 #[.string s]
  rcases file_cases h s hs with ⟨f, hl, hd, hf, hnm, hon, hc⟩ | ⟨cd, hc0, hon, hc⟩
  · have HR := Lib.hid (show removeS s.data.toList ⟨M.map vw, free, fuse, down⟩ = stepS ⟨M.map vw, free, fuse, down⟩ fun s1 => { s1 with V := vdel s.data.toList s1.V, free := s1.free + f.bytes.length } by
      unfold removeS; rw [hon]; rfl)
    have hmf : ∀ (fn : Fn) (first cap : Array Value) (w : World), (Instr.makeFunc fn first cap).run Tryd.prog w = .ok (.func fn first cap) w := fun _ _ _ _ => rfl
    have HC := Lib.hid (hc _ h0)
    have l0 := h.top.lt
    have HDN := Lib.hid (show dropN (look s.data.toList M) = f.bytes.length by rw [hl]; rfl)
    have hfl := hfr f hf
    clear hl hd hnm hon hc hfr
    by_cases hf1 : fuse = 1
    · subst hf1
      go_enter Tryd.func20, Tryd.ntmps20
      go_wp2_with fail
      refine HC.out.mono ?_
      rintro e w' ⟨rfl, rfl⟩
      go_wp2_with fail
      refine (step_off h0 _).mono ?_
      rintro e w' ⟨rfl, hF, hK⟩
      go_wp2
      go_ret
      rw [HR.out]
      exact Res.off rfl ⟨_, ⟨bm, M, hF, rfl, rfl⟩, fun j hj => .inl hj, k0.trans hK (fun j hj => .inl hj)⟩
    · have HF := Lib.hid hf1
      clear hf1
      go_enter Tryd.func20, Tryd.ntmps20
      go_wp2_with fail
      refine HC.out.mono ?_
      rintro e w' ⟨rfl, rfl⟩
      go_wp2_with fail
      refine (step_on h0 HF.out hfu 38 _ (fun args W => by kernel_rfl) _ (remove1_any (h0.set2 _) w.heap.size (w.heap.size + 1) s hs ?_ ?_ (by rw [HDN.out]; exact hfl))).mono ?_
      · exact (B0.far (p := ⟨dp, 2, none⟩) (by show w.heap.size ≠ dp; omega) _).cell 0
      · exact (B1.far (p := ⟨dp, 2, none⟩) (by show w.heap.size + 1 ≠ dp; omega) _).cell 0
      rintro e w' ⟨rfl, hF, hK⟩
      go_wp2
      go_ret
      rw [HR.out]
      rw [HDN.out] at hF
      exact Res.step HF.out ⟨_, ⟨bm, _, hF, map_del' _ _, rfl⟩, fun j hj => .inl (own_del hj), (k0.set_ (p := ⟨dp, 2, none⟩) (.inl (.inl rfl)) _).trans hK (fun j hj => .inl hj)⟩
  · have HR := Lib.hid (show removeS s.data.toList ⟨M.map vw, free, fuse, down⟩ = (cd, ⟨M.map vw, free, fuse, down⟩) from hon _)
    have HC := Lib.hid (hc _ h0)
    have hcb : (cd != 0) = true := by simpa using hc0
    clear hon hc hc0
    go_enter Tryd.func20, Tryd.ntmps20
    go_wp2_with fail
    refine HC.out.mono ?_
    rintro e w' ⟨rfl, rfl⟩
    go_wp2
    go_ret
    rw [HR.out]
    exact ⟨rfl, _, ⟨bm, M, h0, rfl, rfl⟩, fun j hj => .inl hj, k0⟩
end
end Go.Proofs.YtdhiofbimebbkaaDoor
