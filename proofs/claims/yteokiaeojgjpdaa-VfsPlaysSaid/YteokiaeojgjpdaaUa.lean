/- What a disk's calls do to its room, in plain words. No program. -/
import Derived.Test.YteokiaeojgjpdaaVo
namespace Go.Proofs.Yteokiaeojgjpdaa
open Go.RowKit Go.Maps

abbrev FV := List (List UInt8 × List UInt8 × Nat)
def RiseV (V : FV) : Prop := V.Pairwise (fun a b => bytesBefore a.1 b.1 = true)
theorem disk_rise {w : World} {dp : Nat} {X : Nat → Prop} {s : Sta} (h : Disk w dp X s) : RiseV s.V := by
  obtain ⟨bm, M, hF, hV, _⟩ := h
  rw [← hV]
  exact List.pairwise_map.2 hF.rise
theorem vlook_mem {nm : List UInt8} {V : FV} {t : List UInt8 × List UInt8 × Nat} (h : vlook nm V = some t) : t ∈ V ∧ t.1 = nm := by
  unfold vlook at h
  exact ⟨List.mem_of_find?_eq_some h, by simpa using List.find?_some h⟩
theorem tot_vins (x : List UInt8 × List UInt8 × Nat) : ∀ V : FV, tot (vins x V) = x.2.1.length + tot V ∧ (vins x V).length = V.length + 1 ∧ ∀ t ∈ vins x V, t = x ∨ t ∈ V
  | [] => ⟨by simp [vins, tot_cons], rfl, fun t ht => .inl (by simpa [vins] using ht)⟩
  | y :: r => by
    have ih := tot_vins x r
    unfold vins
    split
    · exact ⟨by rw [tot_cons], rfl, fun t ht => by rcases List.mem_cons.1 ht with h | h; exact .inl h; exact .inr h⟩
    · refine ⟨by rw [tot_cons, tot_cons, ih.1]; omega, by rw [List.length_cons, ih.2.1]; rfl, fun t ht => ?_⟩
      rcases List.mem_cons.1 ht with h | h
      · exact .inr (h ▸ List.mem_cons_self ..)
      · rcases ih.2.2 t h with h2 | h2
        · exact .inl h2
        · exact .inr (List.mem_cons_of_mem _ h2)
theorem vset_none {x : List UInt8 × List UInt8 × Nat} : ∀ {V : FV}, (∀ t ∈ V, t.1 ≠ x.1) → vset x V = V
  | [], _ => rfl
  | y :: r, h => by
    have ih := vset_none (x := x) (V := r) (fun t ht => h t (List.mem_cons_of_mem _ ht))
    unfold vset at ih ⊢
    rw [List.map_cons, ih]
    have : (y.1 == x.1) = false := by simpa using h y (List.mem_cons_self ..)
    rw [this]; rfl
theorem tot_vset {x t : List UInt8 × List UInt8 × Nat} : ∀ {V : FV}, RiseV V → vlook x.1 V = some t → tot (vset x V) + t.2.1.length = tot V + x.2.1.length ∧ (vset x V).length = V.length
  | [], _, h => by simp [vlook] at h
  | y :: r, hr, h => by
    have hr2 := List.pairwise_cons.1 hr
    refine ⟨?_, by unfold vset; rw [List.length_map]⟩
    by_cases hy : y.1 = x.1
    · have hyb : (y.1 == x.1) = true := by simpa using hy
      have e : t = y := by
        unfold vlook at h
        rw [List.find?_cons, hyb] at h
        exact (Option.some.inj h).symm
      have hn : vset x r = r := vset_none (fun u hu e2 => before_ne (hr2.1 u hu) (by rw [hy, e2]))
      have : vset x (y :: r) = x :: r := by
        unfold vset at hn ⊢
        rw [List.map_cons, hn, hyb]; rfl
      rw [this, tot_cons, tot_cons, e]; omega
    · have hyb : (y.1 == x.1) = false := by simpa using hy
      have h2 : vlook x.1 r = some t := by
        unfold vlook at h ⊢
        rw [List.find?_cons, hyb] at h
        exact h
      have ih := (tot_vset hr2.2 h2).1
      have : vset x (y :: r) = y :: vset x r := by
        unfold vset
        rw [List.map_cons, hyb]; rfl
      rw [this, tot_cons, tot_cons]; omega
theorem vset_names {x : List UInt8 × List UInt8 × Nat} {V : FV} {t : List UInt8 × List UInt8 × Nat} (ht : t ∈ vset x V) : ∃ u ∈ V, t.1 = u.1 := by
  unfold vset at ht
  obtain ⟨u, hu, rfl⟩ := List.mem_map.1 ht
  refine ⟨u, hu, ?_⟩
  split
  · rename_i h; exact (by simpa using h : u.1 = x.1).symm
  · rfl
theorem vdel_none {nm : List UInt8} {V : FV} (h : ∀ t ∈ V, t.1 ≠ nm) : vdel nm V = V := by
  unfold vdel
  rw [List.filter_eq_self]
  intro t ht
  have : (t.1 == nm) = false := by simpa using h t ht
  rw [this]; rfl
/-- How many bytes a file has, or none. -/
def lnO (o : Option (List UInt8 × List UInt8 × Nat)) : Nat := match o with | some t => t.2.1.length | none => 0
theorem tot_vdel {nm : List UInt8} : ∀ {V : FV}, RiseV V → tot (vdel nm V) + lnO (vlook nm V) = tot V
  | [], _ => rfl
  | y :: r, hr => by
    have hr2 := List.pairwise_cons.1 hr
    by_cases hy : y.1 = nm
    · have hyb : (y.1 == nm) = true := by simpa using hy
      have e : vlook nm (y :: r) = some y := by unfold vlook; rw [List.find?_cons, hyb]
      have hn : vdel nm r = r := vdel_none (fun u hu e2 => before_ne (hr2.1 u hu) (by rw [hy, e2]))
      have : vdel nm (y :: r) = r := by
        unfold vdel at hn ⊢
        rw [List.filter_cons, hyb]
        exact hn
      rw [this, e, tot_cons]
      simp only [lnO]
      omega
    · have hyb : (y.1 == nm) = false := by simpa using hy
      have e : vlook nm (y :: r) = vlook nm r := by unfold vlook; rw [List.find?_cons, hyb]
      have : vdel nm (y :: r) = y :: vdel nm r := by
        unfold vdel
        rw [List.filter_cons, hyb]; rfl
      have ih := tot_vdel (nm := nm) hr2.2
      rw [this, e, tot_cons, tot_cons]
      omega
theorem vdel_sub {nm : List UInt8} {V : FV} : (vdel nm V).Sublist V := List.filter_sublist
theorem crL_names (ks : List Int) : ∀ (nx : Nat) (V : FV), ∀ t ∈ (crL ks nx V).1, ∃ u ∈ V, t.1 = u.1
  | _, [], t, ht => by cases ht
  | nx, a :: r, t, ht => by
    simp only [crL] at ht
    rcases List.mem_cons.1 ht with rfl | ht
    · exact ⟨a, List.mem_cons_self .., cr1_name ks nx a⟩
    · obtain ⟨u, hu, e⟩ := crL_names ks _ r t ht
      exact ⟨u, List.mem_cons_of_mem _ hu, e⟩
/-- A disk with power, of so many files at most; its room and its bytes are what there was room for. -/
structure Inv (r k : Nat) (s : Sta) : Prop where
  room : s.free + tot s.V = r
  fuse : s.fuse = 0
  down : s.down = false
  len : s.V.length ≤ k
  names : ∀ t ∈ s.V, t.1.length ≤ 40
theorem Inv.ok {r k : Nat} {s : Sta} (h : Inv r k s) (hr : r ≤ 1000) (hk : k ≤ 1000) : Ok s := by
  have := h.room
  exact ⟨by have := h.len; omega, by omega, by omega, by rw [h.fuse]; omega, h.names⟩
theorem Inv.crash {r k : Nat} {s : Sta} (ks : List Int) (h : Inv r k s) : Inv r k (crashS ks s) := by
  have h1 := crL_tot ks 0 s.V
  have h2 := h.room
  refine ⟨?_, rfl, rfl, ?_, fun t ht => ?_⟩
  · show s.free + (tot s.V - tot (crL ks 0 s.V).1) + tot (crL ks 0 s.V).1 = r
    omega
  · show (crL ks 0 s.V).1.length ≤ k
    rw [crL_length]; exact h.len
  · obtain ⟨u, hu, e⟩ := crL_names ks 0 s.V t ht
    rw [e]; exact h.names u hu
/-- What a call is to do with the room. -/
structure Does (r k m kd : Nat) (s : Sta) (x : Int × Sta) : Prop where
  inv : Inv r (k + 1) x.2
  app : kd = 2 → x.1 = 0 → x.2.free + m = s.free
  full : x.1 = 71 → x.2.free = s.free ∧ s.free < m
theorem Inv.more {r k : Nat} {s : Sta} (h : Inv r k s) : Inv r (k + 1) s := ⟨h.room, h.fuse, h.down, Nat.le_succ_of_le h.len, h.names⟩
theorem step0 {s : Sta} (k : Sta → Sta) (h : s.fuse = 0) : stepS s k = (0, k s) := by
  unfold stepS
  rw [if_neg (by omega), h]
  obtain ⟨V, fr, fu, dn⟩ := s
  simp only at h
  subst h
  rfl
theorem does_err {r k m kd : Nat} {s : Sta} {e : Int} (h : Inv r k s) (h0 : e ≠ 0) (h71 : e ≠ 71) : Does r k m kd s (e, s) := ⟨h.more, fun _ h1 => absurd h1 h0, fun h1 => absurd h1 h71⟩
theorem mayC_up {n : Nat} : mayC false n = 0 ∧ n ≤ 40 ∨ mayC false n = 1 := by
  unfold mayC
  by_cases h : n < 1 ∨ 40 < n
  · right; rw [if_neg (by decide), if_pos h]
  · left; exact ⟨by rw [if_neg (by decide), if_neg h], by omega⟩
section
variable {r k m : Nat} {s : Sta} {nm z bs : List UInt8}
theorem does_create (h : Inv r k s) : Does r k m 1 s (createS nm s) := by
  unfold createS
  rw [h.down]
  rcases mayC_up (n := nm.length) with ⟨e, hn⟩ | e
  · rw [if_neg (by rw [e]; simp)]
    split
    · exact does_err h (by decide) (by decide)
    · rw [step0 _ h.fuse]
      have ht := tot_vins (nm, [], 0) s.V
      refine ⟨⟨?_, h.fuse, h.down, ?_, fun t ht2 => ?_⟩, fun h2 => by omega, fun h1 => by simp at h1⟩
      · show s.free + tot (vins (nm, [], 0) s.V) = r
        rw [ht.1]; have := h.room; simp; exact this
      · show (vins (nm, [], 0) s.V).length ≤ k + 1
        rw [ht.2.1]; have := h.len; omega
      · rcases ht.2.2 t ht2 with rfl | h3
        · exact hn
        · exact h.names t h3
  · rw [e, if_pos (by decide)]
    exact does_err h (by decide) (by decide)
theorem does_file {kd : Nat} {q : List UInt8 × List UInt8 × Nat → Int × Sta} (h : Inv r k s) (hq : ∀ t, vlook nm s.V = some t → Does r k m kd s (q t)) : Does r k m kd s (onFile nm s q) := by
  unfold onFile
  rw [h.down]
  simp only [Bool.false_eq_true, if_false]
  cases hv : vlook nm s.V with
  | none => exact does_err h (by decide) (by decide)
  | some t => exact hq t hv
theorem does_append (h : Inv r k s) (hR : RiseV s.V) (hm : bs.length = m) : Does r k m 2 s (appendS nm bs s) := by
  refine does_file h fun t hv => ?_
  split
  · exact ⟨h.more, fun _ h1 => by simp at h1, fun _ => ⟨rfl, by omega⟩⟩
  · rw [step0 _ h.fuse]
    have hm2 := vlook_mem hv
    have ht := tot_vset (x := (t.1, t.2.1 ++ bs, t.2.2)) hR (by rw [hm2.2]; exact hv)
    refine ⟨⟨?_, h.fuse, h.down, ?_, fun u hu => ?_⟩, fun _ _ => ?_, fun h1 => by simp at h1⟩
    · show s.free - bs.length + tot (vset (t.1, t.2.1 ++ bs, t.2.2) s.V) = r
      have h1 := ht.1
      have h2 := h.room
      simp only [List.length_append] at h1
      omega
    · show (vset (t.1, t.2.1 ++ bs, t.2.2) s.V).length ≤ k + 1
      rw [ht.2]; have := h.len; omega
    · obtain ⟨v, hv2, e⟩ := vset_names hu
      rw [e]; exact h.names v hv2
    · show s.free - bs.length + m = s.free
      omega
theorem does_sync (h : Inv r k s) (hR : RiseV s.V) : Does r k m 3 s (syncS nm s) := by
  refine does_file h fun t hv => ?_
  rw [step0 _ h.fuse]
  have hm2 := vlook_mem hv
  have ht := tot_vset (x := (t.1, t.2.1, t.2.1.length)) hR (by rw [hm2.2]; exact hv)
  refine ⟨⟨?_, h.fuse, h.down, ?_, fun u hu => ?_⟩, fun h1 => by omega, fun h1 => by simp at h1⟩
  · show s.free + tot (vset (t.1, t.2.1, t.2.1.length) s.V) = r
    have h1 := ht.1
    have h2 := h.room
    simp only at h1
    omega
  · show (vset (t.1, t.2.1, t.2.1.length) s.V).length ≤ k + 1
    rw [ht.2]; have := h.len; omega
  · obtain ⟨v, hv2, e⟩ := vset_names hu
    rw [e]; exact h.names v hv2
theorem does_cut (h : Inv r k s) (hR : RiseV s.V) (n : Int) : Does r k m 5 s (cutS nm n s) := by
  refine does_file h fun t hv => ?_
  split
  · exact does_err h (by decide) (by decide)
  · rename_i hn
    rw [step0 _ h.fuse]
    have hm2 := vlook_mem hv
    have ht := tot_vset (x := (t.1, t.2.1.take n.toNat, min t.2.2 n.toNat)) hR (by rw [hm2.2]; exact hv)
    refine ⟨⟨?_, h.fuse, h.down, ?_, fun u hu => ?_⟩, fun h1 => by omega, fun h1 => by simp at h1⟩
    · show s.free + (t.2.1.length - n.toNat) + tot (vset (t.1, t.2.1.take n.toNat, min t.2.2 n.toNat) s.V) = r
      have h1 := ht.1
      have h2 := h.room
      simp only [List.length_take] at h1
      omega
    · show (vset (t.1, t.2.1.take n.toNat, min t.2.2 n.toNat) s.V).length ≤ k + 1
      rw [ht.2]; have := h.len; omega
    · obtain ⟨v, hv2, e⟩ := vset_names hu
      rw [e]; exact h.names v hv2
theorem does_remove {kd : Nat} (h : Inv r k s) (hR : RiseV s.V) (hkd : kd ≠ 2) : Does r k m kd s (removeS nm s) := by
  refine does_file h fun t hv => ?_
  rw [step0 _ h.fuse]
  have ht := tot_vdel (nm := nm) hR
  rw [hv] at ht
  refine ⟨⟨?_, h.fuse, h.down, ?_, fun u hu => h.names u (vdel_sub.subset hu)⟩, fun h1 => absurd h1 hkd, fun h1 => by simp at h1⟩
  · show s.free + t.2.1.length + tot (vdel nm s.V) = r
    have h2 := h.room
    simp only [lnO] at ht
    omega
  · show (vdel nm s.V).length ≤ k + 1
    have := (vdel_sub (nm := nm) (V := s.V)).length_le
    have := h.len; omega
theorem does_rename (h : Inv r k s) (hR : RiseV s.V) : Does r k m 4 s (renameS nm z s) := by
  unfold renameS
  rw [h.down]
  rcases mayC_up (n := z.length) with ⟨e, hn⟩ | e
  · rw [if_neg (by rw [e]; simp)]
    refine does_file h fun t hv => ?_
    rw [step0 _ h.fuse]
    have h1 := tot_vdel (nm := nm) hR
    rw [hv] at h1
    have h2 := tot_vdel (nm := z) (V := vdel nm s.V) (hR.sublist vdel_sub)
    have h3 := tot_vins (z, t.2.1, t.2.2) (vdel z (vdel nm s.V))
    have l1 := (vdel_sub (nm := nm) (V := s.V)).length_le
    have l2 := (vdel_sub (nm := z) (V := vdel nm s.V)).length_le
    refine ⟨⟨?_, h.fuse, h.down, ?_, fun u hu => ?_⟩, fun h1 => by omega, fun h1 => by simp at h1⟩
    · show s.free + lnO (vlook z (vdel nm s.V)) + tot (vins (z, t.2.1, t.2.2) (vdel z (vdel nm s.V))) = r
      rw [h3.1]
      have h4 := h.room
      simp only [lnO] at h1
      simp only
      omega
    · show (vins (z, t.2.1, t.2.2) (vdel z (vdel nm s.V))).length ≤ k + 1
      rw [h3.2.1]; have := h.len; omega
    · rcases h3.2.2 u hu with rfl | h5
      · exact hn
      · exact h.names u (vdel_sub.subset (vdel_sub.subset h5))
  · rw [e, if_pos (by decide)]
    exact does_err h (by decide) (by decide)
end
end Go.Proofs.Yteokiaeojgjpdaa
