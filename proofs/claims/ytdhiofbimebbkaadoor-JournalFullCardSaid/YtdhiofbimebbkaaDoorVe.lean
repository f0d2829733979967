/- The disk in plain words: its state, what each call makes of it; Create. -/
import Derived.Test.YtdhiofbimebbkaaDoorVd
namespace Go.Proofs.YtdhiofbimebbkaaDoor
open Go.RowKit Go.Maps

/-- A disk's state: names, bytes, how many are safe; the room left; the fuse; is the power off? -/
structure Sta where
  V : List (List UInt8 × List UInt8 × Nat)
  free : Nat
  fuse : Nat
  down : Bool
def vw (f : Fl) : List UInt8 × List UInt8 × Nat := (f.name, f.bytes, f.safe)
def vlook (nm : List UInt8) (V : List (List UInt8 × List UInt8 × Nat)) : Option (List UInt8 × List UInt8 × Nat) := V.find? (fun t => t.1 == nm)
def vdel (nm : List UInt8) (V : List (List UInt8 × List UInt8 × Nat)) : List (List UInt8 × List UInt8 × Nat) := V.filter (fun t => !(t.1 == nm))
def vins (x : List UInt8 × List UInt8 × Nat) : List (List UInt8 × List UInt8 × Nat) → List (List UInt8 × List UInt8 × Nat)
  | [] => [x]
  | y :: r => if bytesBefore x.1 y.1 then x :: y :: r else y :: vins x r
def vset (x : List UInt8 × List UInt8 × Nat) (V : List (List UInt8 × List UInt8 × Nat)) : List (List UInt8 × List UInt8 × Nat) := V.map (fun t => if t.1 == x.1 then x else t)
theorem map_look (nm : List UInt8) : ∀ M : List Fl, vlook nm (M.map vw) = (look nm M).map vw
  | [] => rfl
  | f :: r => by
    have ih := map_look nm r
    unfold vlook look at ih ⊢
    simp only [List.map_cons, List.find?_cons]
    have e : ((vw f).1 == nm) = (f.name == nm) := rfl
    rw [e]
    cases f.name == nm
    · exact ih
    · rfl
theorem map_del' (nm : List UInt8) (M : List Fl) : (delF nm M).map vw = vdel nm (M.map vw) := by
  unfold delF vdel
  rw [List.filter_map]
  rfl
theorem map_ins (x : Fl) : ∀ M : List Fl, (insF x M).map vw = vins (vw x) (M.map vw)
  | [] => rfl
  | y :: r => by
    simp only [List.map_cons, insF, vins]
    have e : bytesBefore (vw x).1 (vw y).1 = bytesBefore x.name y.name := rfl
    rw [e]
    split
    · rfl
    · rw [List.map_cons, map_ins x r]
theorem map_upd (x : Fl) (M : List Fl) : (updF x M).map vw = vset (vw x) (M.map vw) := by
  unfold updF vset
  rw [List.map_map, List.map_map]
  refine List.map_congr_left fun f _ => ?_
  simp only [Function.comp]
  have e : ((vw f).1 == (vw x).1) = (f.name == x.name) := rfl
  rw [e]
  split <;> rfl

/-- The disk at dp has this state; X: its blocks. -/
def Disk (w : World) (dp : Nat) (X : Nat → Prop) (s : Sta) : Prop := ∃ bm M, FsAt w dp bm M s.free s.fuse s.down ∧ M.map vw = s.V ∧ X = Own dp bm M
/-- Behind a call the disk has this state; nothing else has turned. -/
def After (w : World) (dp : Nat) (X : Nat → Prop) (s' : Sta) (w' : World) : Prop := ∃ X', Disk w' dp X' s' ∧ (∀ j, X' j → X j ∨ w.heap.size ≤ j) ∧ Kept X w w'
def Res (w : World) (dp : Nat) (X : Nat → Prop) (r : Int × Sta) (e : Ending) (w' : World) : Prop := e = .returned (.int .i64 r.1) ∧ After w dp X r.2 w'

theorem Disk.keep {w w' : World} {dp : Nat} {X : Nat → Prop} {s : Sta} (h : Disk w dp X s) (hk : ∀ j, X j → w'.heap[j]? = w.heap[j]?) : Disk w' dp X s := by
  obtain ⟨bm, M, hF, hV, rfl⟩ := h
  exact ⟨bm, M, hF.keep hk, hV, rfl⟩
theorem Disk.lt {w : World} {dp : Nat} {X : Nat → Prop} {s : Sta} (h : Disk w dp X s) {j : Nat} (hj : X j) : j < w.heap.size := by
  obtain ⟨bm, M, hF, hV, rfl⟩ := h
  exact hF.own_lt hj
/-- A call that changes just where the power goes. -/
def stepS (s : Sta) (k : Sta → Sta) : Int × Sta := if s.fuse = 1 then (70, { s with down := true }) else (0, k { s with fuse := s.fuse - 1 })
theorem Res.step {w w' : World} {dp : Nat} {X : Nat → Prop} {s : Sta} {k : Sta → Sta} (hf : s.fuse ≠ 1) (h : After w dp X (k { s with fuse := s.fuse - 1 }) w') : Res w dp X (stepS s k) (.returned (.int .i64 0)) w' := by
  unfold stepS; rw [if_neg hf]; exact ⟨rfl, h⟩
theorem Res.off {w w' : World} {dp : Nat} {X : Nat → Prop} {s : Sta} {k : Sta → Sta} (hf : s.fuse = 1) (h : After w dp X { s with down := true } w') : Res w dp X (stepS s k) (.returned (.int .i64 70)) w' := by
  unfold stepS; rw [if_pos hf]; exact ⟨rfl, h⟩
def createS (nm : List UInt8) (s : Sta) : Int × Sta :=
  if mayC s.down nm.length ≠ 0 then (mayC s.down nm.length, s)
  else if (vlook nm s.V).isSome then (5, s)
  else stepS s fun s => { s with V := vins (nm, [], 0) s.V }
section
variable {w : World} {dp bm free fuse : Nat} {M : List Fl} {down : Bool}
theorem own_ins {x : Fl} {j : Nat} {W : World} (hx : W.heap.size ≤ x.fb) (hv : ∀ r, x.v.ownBlock = some r → W.heap.size ≤ r) (h : Own dp bm (insF x M) j) : Own dp bm M j ∨ W.heap.size ≤ j := by
  rcases h with h | h | ⟨f, hf, h⟩
  · exact .inl (.inl h)
  · exact .inl (.inr (.inl h))
  · rcases mem_ins.1 hf with rfl | hf
    · rcases h with h | h
      · rw [← h]; exact .inr hx
      · exact .inr (hv j h)
    · exact .inl (.inr (.inr ⟨f, hf, h⟩))
set_option maxHeartbeats 1000000 in
set_option maxRecDepth 100000 in
theorem create_any (h : FsAt w dp bm M free fuse down) (s : ByteArray) (hs : s.size ≤ maxLen) (hlen : M.length < maxLen) (hfu : fuse ≤ 9223372036854775807) :
    Calls Tryd.prog 15 #[.pointer (some ⟨dp, 0, none⟩), .string s] w (Res w dp (Own dp bm M) (createS s.data.toList ⟨M.map vw, free, fuse, down⟩)) := by
  have hsl : s.data.toList.length = s.size := rfl
  have h0 := (h.alloc (.cells #[.pointer (some ⟨dp, 0, none⟩)] 23)).alloc (.cells #[.string s] 9)
  have k0 : Kept (Own dp bm M) w ((w.alloc (.cells #[.pointer (some ⟨dp, 0, none⟩)] 23)).alloc (.cells #[.string s] 9)) := ((Kept.refl _ w).alloc _).alloc _
  by_cases hm : mayC down s.size = 0
  · have hL := fun n => (h0.drewN n).lookup s hs
    cases hl : look s.data.toList M with
    | some f =>
      rw [hl] at hL
      have hL' : ∀ n, (Instr.lookup 47 (.map (some bm)) (.string s) false).run Tryd.prog (((w.alloc (.cells #[.pointer (some ⟨dp, 0, none⟩)] 23)).alloc (.cells #[.string s] 9)).drewN n) = .ok (.pointer (some ⟨f.fb, 0, none⟩)) (((w.alloc (.cells #[.pointer (some ⟨dp, 0, none⟩)] 23)).alloc (.cells #[.string s] 9)).drewN n) := hL
      have HR := Lib.hid (show createS s.data.toList ⟨M.map vw, free, fuse, down⟩ = (5, ⟨M.map vw, free, fuse, down⟩) by
        unfold createS; rw [if_neg (by simpa [hsl] using hm), map_look, hl]; rfl)
      have T0 : w.cell? ⟨dp, 0, none⟩ = some (.map (some bm)) := h.top.cell 0
      have l0 := h.top.lt
      clear hL hl
      go_enter Tryd.func15, Tryd.ntmps15
      go_wp2_with fail
      refine (may_any h0 s).mono ?_
      rw [hm]
      rintro e w' ⟨rfl, rfl⟩
      go_wp2
      go_quiet (fail)
      go_wp2
      go_ret
      rw [HR.out]
      exact ⟨rfl, _, ⟨bm, M, h0.drewN _, rfl, rfl⟩, fun j hj => .inl hj, k0.drewN _⟩
    | none =>
      rw [hl] at hL
      have hL' : ∀ n, (Instr.lookup 47 (.map (some bm)) (.string s) false).run Tryd.prog (((w.alloc (.cells #[.pointer (some ⟨dp, 0, none⟩)] 23)).alloc (.cells #[.string s] 9)).drewN n) = .ok (.pointer none) (((w.alloc (.cells #[.pointer (some ⟨dp, 0, none⟩)] 23)).alloc (.cells #[.string s] 9)).drewN n) := hL
      have hmf : ∀ (fn : Fn) (first cap : Array Value) (w : World), (Instr.makeFunc fn first cap).run Tryd.prog w = .ok (.func fn first cap) w := fun _ _ _ _ => rfl
      have HR := Lib.hid (show createS s.data.toList ⟨M.map vw, free, fuse, down⟩ = stepS ⟨M.map vw, free, fuse, down⟩ fun s1 => { s1 with V := vins (s.data.toList, [], 0) s1.V } by
        unfold createS; rw [if_neg (by simpa [hsl] using hm), map_look, hl]; rfl)
      have T0 : w.cell? ⟨dp, 0, none⟩ = some (.map (some bm)) := h.top.cell 0
      have l0 := h.top.lt
      have HL := Lib.hid hl
      have B0 : Blk ((w.alloc (.cells #[.pointer (some ⟨dp, 0, none⟩)] 23)).alloc (.cells #[.string s] 9)) w.heap.size 23 #[.pointer (some ⟨dp, 0, none⟩)] := (Blk.new w _ _).alloc _
      have B1 : Blk ((w.alloc (.cells #[.pointer (some ⟨dp, 0, none⟩)] 23)).alloc (.cells #[.string s] 9)) (w.heap.size + 1) 9 #[.string s] := by simpa using Blk.new (w.alloc (.cells #[.pointer (some ⟨dp, 0, none⟩)] 23)) 9 #[.string s]
      clear hL hl
      by_cases hf : fuse = 1
      · subst hf
        go_enter Tryd.func15, Tryd.ntmps15
        go_wp2_with fail
        refine (may_any h0 s).mono ?_
        rw [hm]
        rintro e w' ⟨rfl, rfl⟩
        go_wp2
        go_quiet (fail)
        go_wp2_with fail
        refine (step_off (h0.drewN _) _).mono ?_
        rintro e w' ⟨rfl, hF, hK⟩
        go_wp2
        go_ret
        rw [HR.out]
        exact Res.off rfl ⟨_, ⟨bm, M, hF, rfl, rfl⟩, fun j hj => .inl hj, (k0.drewN _).trans hK (fun j hj => .inl hj)⟩
      · have HF := Lib.hid hf
        go_enter Tryd.func15, Tryd.ntmps15
        go_wp2_with fail
        refine (may_any h0 s).mono ?_
        rw [hm]
        rintro e w' ⟨rfl, rfl⟩
        clear hf
        go_wp2
        go_quiet (fail)
        go_wp2_with fail
        refine (step_on (h0.drewN _) HF.out hfu 35 _ (fun args W => by kernel_rfl) _ (create1_any ((h0.drewN _).set2 _) w.heap.size (w.heap.size + 1) s hs hlen ?_ ?_ HL.out)).mono ?_
        · exact ((B0.drewN _).far (p := ⟨dp, 2, none⟩) (by show w.heap.size ≠ dp; omega) _).cell 0
        · exact ((B1.drewN _).far (p := ⟨dp, 2, none⟩) (by show w.heap.size + 1 ≠ dp; omega) _).cell 0
        rintro e w' ⟨rfl, hF, hK⟩
        go_wp2
        go_ret
        rw [HR.out]
        refine Res.step HF.out ⟨_, ⟨bm, _, hF, map_ins _ _, rfl⟩, fun j hj => ?_, ((k0.drewN _).set_ (p := ⟨dp, 2, none⟩) (.inl (.inl rfl)) _).trans hK (fun j hj => .inl hj)⟩
        exact own_ins (by simp [newF, World.setCell]; omega) (fun r hr => by cases hr) hj
  · have hm' : ¬ mayC down s.size = 0 := hm
    have HR := Lib.hid (show createS s.data.toList ⟨M.map vw, free, fuse, down⟩ = (mayC down s.size, ⟨M.map vw, free, fuse, down⟩) by
      unfold createS; rw [if_pos (by simpa [hsl] using hm)]; rfl)
    have hmb : (mayC down s.size != 0) = true := by simpa using hm
    clear hm hm'
    go_enter Tryd.func15, Tryd.ntmps15
    go_wp2_with fail
    refine (may_any h0 s).mono ?_
    rintro e w' ⟨rfl, rfl⟩
    go_wp2
    go_ret
    rw [HR.out]
    exact ⟨rfl, _, ⟨bm, M, h0, rfl, rfl⟩, fun j hj => .inl hj, k0⟩
end
end Go.Proofs.YtdhiofbimebbkaaDoor
