/- What every call of a disk keeps, in plain words, with a fuse. No program. -/
import Derived.Test.YteokiaeojgjpdaaUa
namespace Go.Proofs.Yteokiaeojgjpdaa
open Go.RowKit Go.Maps

structure PI (most k T : Nat) (s : Sta) : Prop where
  room : s.free + tot s.V = most
  fuse : s.fuse ≤ 9223372036854775807
  len : s.V.length ≤ k
  tot_ : tot s.V ≤ T
  names : ∀ t ∈ s.V, t.1.length ≤ 40
theorem PI.ok {most k T : Nat} {s : Sta} (h : PI most k T s) (hm : most ≤ 9223372036854775807) (hk : k ≤ 1000000) (hT : T ≤ 500000000) : Ok s :=
  ⟨by have := h.len; omega, by have := h.tot_; omega, by rw [h.room]; exact hm, h.fuse, h.names⟩
theorem PI.more {most k T k' T' : Nat} {s : Sta} (h : PI most k T s) (hk : k ≤ k') (hT : T ≤ T') : PI most k' T' s := ⟨h.room, h.fuse, Nat.le_trans h.len hk, Nat.le_trans h.tot_ hT, h.names⟩
theorem PI.crash {most k T : Nat} {s : Sta} (ks : List Int) (h : PI most k T s) : PI most k T (crashS ks s) := by
  have h1 := crL_tot ks 0 s.V
  have h2 := h.room
  have h3 := h.tot_
  refine ⟨?_, by show 0 ≤ _; omega, ?_, ?_, fun t ht => ?_⟩
  · show s.free + (tot s.V - tot (crL ks 0 s.V).1) + tot (crL ks 0 s.V).1 = most
    omega
  · show (crL ks 0 s.V).1.length ≤ k
    rw [crL_length]; exact h.len
  · show tot (crL ks 0 s.V).1 ≤ T
    omega
  · obtain ⟨u, hu, e⟩ := crL_names ks 0 s.V t ht
    rw [e]; exact h.names u hu
theorem PI.fail {most k T : Nat} {s : Sta} (h : PI most k T s) (n : Int) (hn : n ≤ 9223372036854775807) : PI most k T { s with fuse := posP n } :=
  ⟨h.room, by show posP n ≤ _; unfold posP; omega, h.len, h.tot_, h.names⟩
theorem PI.step {most k T k' T' : Nat} {s : Sta} {q : Sta → Sta} (h : PI most k T s) (hk : k ≤ k') (hT : T ≤ T') (hq : ∀ f, f ≤ 9223372036854775807 → PI most k' T' (q { s with fuse := f })) : PI most k' T' (stepS s q).2 := by
  unfold stepS
  split
  · exact ⟨h.room, h.fuse, Nat.le_trans h.len hk, Nat.le_trans h.tot_ hT, h.names⟩
  · exact hq _ (by have := h.fuse; omega)
section
variable {most k T m : Nat} {s : Sta} {nm z bs : List UInt8}
theorem PI.create (h : PI most k T s) : PI most (k + 1) (T + m) (createS nm s).2 := by
  unfold createS
  split
  · exact h.more (by omega) (by omega)
  · rename_i hm
    split
    · exact h.more (by omega) (by omega)
    · refine h.step (by omega) (by omega) fun f hf => ?_
      have ht := tot_vins (nm, [], 0) s.V
      have hr := h.room
      have hto := h.tot_
      refine ⟨?_, hf, ?_, ?_, fun t ht2 => ?_⟩
      · show s.free + tot (vins (nm, [], 0) s.V) = most
        rw [ht.1]; simp; exact hr
      · show (vins (nm, [], 0) s.V).length ≤ k + 1
        rw [ht.2.1]; have := h.len; omega
      · show tot (vins (nm, [], 0) s.V) ≤ T + m
        rw [ht.1]; simp; omega
      · rcases ht.2.2 t ht2 with rfl | h3
        · show nm.length ≤ 40
          have hm' : mayC s.down nm.length = 0 := by
            rcases Decidable.em (mayC s.down nm.length = 0) with h1 | h1
            · exact h1
            · exact absurd h1 hm
          unfold mayC at hm'
          split at hm'
          · omega
          · split at hm'
            · omega
            · omega
        · exact h.names t h3
theorem PI.file {q : List UInt8 × List UInt8 × Nat → Int × Sta} (h : PI most k T s) (hq : ∀ t, vlook nm s.V = some t → PI most (k + 1) (T + m) (q t).2) : PI most (k + 1) (T + m) (onFile nm s q).2 := by
  unfold onFile
  split
  · exact h.more (by omega) (by omega)
  · cases hv : vlook nm s.V with
    | none => exact h.more (by omega) (by omega)
    | some t => exact hq t hv
theorem PI.append (h : PI most k T s) (hR : RiseV s.V) (hm : bs.length = m) : PI most (k + 1) (T + m) (appendS nm bs s).2 := by
  refine h.file fun t hv => ?_
  split
  · exact h.more (by omega) (by omega)
  · refine h.step (by omega) (by omega) fun f hf => ?_
    have hm2 := vlook_mem hv
    have ht := tot_vset (x := (t.1, t.2.1 ++ bs, t.2.2)) hR (by rw [hm2.2]; exact hv)
    have h1 := ht.1
    have h2 := h.room
    have h3 := h.tot_
    simp only [List.length_append] at h1
    refine ⟨?_, hf, ?_, ?_, fun u hu => ?_⟩
    · show s.free - bs.length + tot (vset (t.1, t.2.1 ++ bs, t.2.2) s.V) = most
      omega
    · show (vset (t.1, t.2.1 ++ bs, t.2.2) s.V).length ≤ k + 1
      rw [ht.2]; have := h.len; omega
    · show tot (vset (t.1, t.2.1 ++ bs, t.2.2) s.V) ≤ T + m
      omega
    · obtain ⟨v, hv2, e⟩ := vset_names hu
      rw [e]; exact h.names v hv2
theorem PI.sync (h : PI most k T s) (hR : RiseV s.V) : PI most (k + 1) (T + m) (syncS nm s).2 := by
  refine h.file fun t hv => ?_
  refine h.step (by omega) (by omega) fun f hf => ?_
  have hm2 := vlook_mem hv
  have ht := tot_vset (x := (t.1, t.2.1, t.2.1.length)) hR (by rw [hm2.2]; exact hv)
  have h1 := ht.1
  have h2 := h.room
  have h3 := h.tot_
  simp only at h1
  refine ⟨?_, hf, ?_, ?_, fun u hu => ?_⟩
  · show s.free + tot (vset (t.1, t.2.1, t.2.1.length) s.V) = most
    omega
  · show (vset (t.1, t.2.1, t.2.1.length) s.V).length ≤ k + 1
    rw [ht.2]; have := h.len; omega
  · show tot (vset (t.1, t.2.1, t.2.1.length) s.V) ≤ T + m
    omega
  · obtain ⟨v, hv2, e⟩ := vset_names hu
    rw [e]; exact h.names v hv2
theorem PI.cut (h : PI most k T s) (hR : RiseV s.V) (n : Int) : PI most (k + 1) (T + m) (cutS nm n s).2 := by
  refine h.file fun t hv => ?_
  split
  · exact h.more (by omega) (by omega)
  · rename_i hn
    refine h.step (by omega) (by omega) fun f hf => ?_
    have hm2 := vlook_mem hv
    have ht := tot_vset (x := (t.1, t.2.1.take n.toNat, min t.2.2 n.toNat)) hR (by rw [hm2.2]; exact hv)
    have h1 := ht.1
    have h2 := h.room
    have h3 := h.tot_
    simp only [List.length_take] at h1
    refine ⟨?_, hf, ?_, ?_, fun u hu => ?_⟩
    · show s.free + (t.2.1.length - n.toNat) + tot (vset (t.1, t.2.1.take n.toNat, min t.2.2 n.toNat) s.V) = most
      omega
    · show (vset (t.1, t.2.1.take n.toNat, min t.2.2 n.toNat) s.V).length ≤ k + 1
      rw [ht.2]; have := h.len; omega
    · show tot (vset (t.1, t.2.1.take n.toNat, min t.2.2 n.toNat) s.V) ≤ T + m
      omega
    · obtain ⟨v, hv2, e⟩ := vset_names hu
      rw [e]; exact h.names v hv2
theorem PI.remove (h : PI most k T s) (hR : RiseV s.V) : PI most (k + 1) (T + m) (removeS nm s).2 := by
  refine h.file fun t hv => ?_
  refine h.step (by omega) (by omega) fun f hf => ?_
  have ht := tot_vdel (nm := nm) hR
  rw [hv] at ht
  have h2 := h.room
  have h3 := h.tot_
  simp only [lnO] at ht
  refine ⟨?_, hf, ?_, ?_, fun u hu => h.names u (vdel_sub.subset hu)⟩
  · show s.free + t.2.1.length + tot (vdel nm s.V) = most
    omega
  · show (vdel nm s.V).length ≤ k + 1
    have := (vdel_sub (nm := nm) (V := s.V)).length_le
    have := h.len; omega
  · show tot (vdel nm s.V) ≤ T + m
    omega
theorem PI.rename (h : PI most k T s) (hR : RiseV s.V) : PI most (k + 1) (T + m) (renameS nm z s).2 := by
  unfold renameS
  split
  · exact h.more (by omega) (by omega)
  · rename_i hm
    refine h.file fun t hv => ?_
    refine h.step (by omega) (by omega) fun f hf => ?_
    have h1 := tot_vdel (nm := nm) hR
    rw [hv] at h1
    have h2 := tot_vdel (nm := z) (V := vdel nm s.V) (hR.sublist vdel_sub)
    have h3 := tot_vins (z, t.2.1, t.2.2) (vdel z (vdel nm s.V))
    have l1 := (vdel_sub (nm := nm) (V := s.V)).length_le
    have l2 := (vdel_sub (nm := z) (V := vdel nm s.V)).length_le
    have h4 := h.room
    have h5 := h.tot_
    simp only [lnO] at h1
    refine ⟨?_, hf, ?_, ?_, fun u hu => ?_⟩
    · show s.free + lnO (vlook z (vdel nm s.V)) + tot (vins (z, t.2.1, t.2.2) (vdel z (vdel nm s.V))) = most
      rw [h3.1]
      simp only
      omega
    · show (vins (z, t.2.1, t.2.2) (vdel z (vdel nm s.V))).length ≤ k + 1
      rw [h3.2.1]; have := h.len; omega
    · show tot (vins (z, t.2.1, t.2.2) (vdel z (vdel nm s.V))) ≤ T + m
      rw [h3.1]
      simp only
      omega
    · rcases h3.2.2 u hu with rfl | h6
      · show z.length ≤ 40
        have hm' : mayC s.down z.length = 0 := by
          rcases Decidable.em (mayC s.down z.length = 0) with h1 | h1
          · exact h1
          · exact absurd h1 hm
        unfold mayC at hm'
        split at hm'
        · omega
        · split at hm'
          · omega
          · omega
      · exact h.names u (vdel_sub.subset (vdel_sub.subset h6))
end
end Go.Proofs.Yteokiaeojgjpdaa
