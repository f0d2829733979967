/- The document's own Crash. -/
import Derived.Test.YteokiaeojgjpdaaYe
import Derived.IntWalk
namespace Go.Proofs.Yteokiaeojgjpdaa
open Go.RowKit Go.Maps

def betw' (n lo hi : Int) : Int := if n < lo then lo else if hi < n then hi else n
set_option maxRecDepth 100000 in
theorem between_any' (n lo hi : Int) (w : World) : Calls Try.prog 78 #[.int .i64 n, .int .i64 lo, .int .i64 hi] w fun e w' => e = .returned (.int .i64 (betw' n lo hi)) ∧ w' = w := by
  rcases Int.lt_or_le n lo with h1 | h1
  · have e : betw' n lo hi = lo := by unfold betw'; rw [if_pos h1]
    rw [e]
    clear e
    go_enter Try.func78, Try.ntmps78
    go_wp2
    go_ret
    exact ⟨rfl, rfl⟩
  · have h1' : ¬ n < lo := by omega
    rcases Int.lt_or_le hi n with h2 | h2
    · have e : betw' n lo hi = hi := by unfold betw'; rw [if_neg h1', if_pos h2]
      rw [e]
      clear e
      go_enter Try.func78, Try.ntmps78
      go_wp2
      go_ret
      exact ⟨rfl, rfl⟩
    · have h2' : ¬ hi < n := by omega
      have e : betw' n lo hi = n := by unfold betw'; rw [if_neg h1', if_neg h2']
      rw [e]
      clear e
      go_enter Try.func78, Try.ntmps78
      go_wp2
      go_ret
      exact ⟨rfl, rfl⟩
theorem betw_min (k : Int) (l : Nat) : betw' k 0 (l : Int) = ((min k.toNat l : Nat) : Int) := by
  unfold betw'
  split
  · omega
  · split <;> omega
set_option maxHeartbeats 8000000 in
set_option maxRecDepth 100000 in
theorem rcrash_any {w : World} {Y : Nat → Prop} {A : Option Addr} {n c : Nat} {fs : List FR} (h : RefAt w Y A n fs) (hY : Low w.heap.size Y) (hn : n ≤ 900000000) (hlen : ∀ f ∈ fs, f.bs.length ≤ 900000000) (most fu : Int) (dn : Bool) {K : Option Addr} {kn kc : Nat} {ks : List Int} (hk : IntsAt w K kn ks) (hkn : kn ≤ maxLen) :
    Calls Try.prog 29 #[.agg #[.slice A n c, .int .i64 most, .int .i64 fu, .bool dn], .slice K kn kc] w (FsPost w Y most 0 false (crL ks 0 (fs.map FR.t)).1) := by
  unfold maxLen at hkn
  have hfl := h.1
  have hkl := hk.1
  have H := Lib.hid h
  have HK := Lib.hid hk
  have HLN := Lib.hid hlen
  clear h hk hlen
  obtain ⟨W0, hW0⟩ : ∃ W0, W0 = (((w.alloc (.cells #[.slice A n c, .int .i64 most, .int .i64 0, .bool false] 53)).alloc (.cells #[.slice none 0 0, .int .i64 0, .int .i64 0, .bool false] 53)).alloc (.cells #[] 130)) := ⟨_, rfl⟩
  have hs0 : W0.heap.size = w.heap.size + 3 := by rw [hW0]; simp
  have b0 : Below w.heap.size w W0 := by rw [hW0]; exact below3 w _ _ _
  have k1 : Blk W0 w.heap.size 53 #[.slice A n c, .int .i64 most, .int .i64 0, .bool false] := by rw [hW0]; exact ((Blk.new w 53 _).alloc _).alloc _
  have k2 : Blk W0 (w.heap.size + 1) 53 #[.slice none 0 0, .int .i64 0, .int .i64 0, .bool false] := by
    rw [hW0]
    have := (Blk.new (w.alloc (.cells #[.slice A n c, .int .i64 most, .int .i64 0, .bool false] 53)) 53 #[.slice none 0 0, .int .i64 0, .int .i64 0, .bool false]).alloc (.cells #[] 130)
    simpa using this
  have o0 : OutAt W0 (w.heap.size + 2) (.slice (some ⟨w.heap.size + 1 + 1, 0, none⟩) 0 0) [] := by
    rw [hW0]
    refine ⟨rfl, .inr ⟨w.heap.size + 2, 0, #[], rfl, Nat.le_refl _, ?_, Nat.le_refl _, Nat.zero_le _, rfl, rfl⟩⟩
    have := heap_alloc_new ((w.alloc (.cells #[.slice A n c, .int .i64 most, .int .i64 0, .bool false] 53)).alloc (.cells #[.slice none 0 0, .int .i64 0, .int .i64 0, .bool false] 53)) (.cells #[] 130)
    simpa using this
  have K1 := Lib.hid k1
  have K2 := Lib.hid k2
  have B0 := Lib.hid b0
  have O0 := Lib.hid o0
  clear k1 k2 b0 o0
  go_enter Try.func29, Try.ntmps29
  go_wp2_with fail
  rw [← hW0]
  clear hW0
  go_loopw [5, 6, 7] (fun v at_ i wr => ∃ (j nx : Nat) (out : List FR), j ≤ n ∧ out.length ≤ j ∧ nx ≤ j ∧ i = .int .i64 (j : Nat) ∧ at_ = .int .i64 (nx : Nat) ∧ OutAt wr (w.heap.size + 2) v out ∧ out.map FR.t = (crL ks 0 ((fs.map FR.t).take j)).1 ∧ (crL ks 0 ((fs.map FR.t).take j)).2 = min nx ks.length ∧ (∀ g ∈ out, FOk w Y g) ∧ Below (w.heap.size + 2) W0 wr) (fun _ _ i _ => n - (intOf i).toNat)
  case atStart => exact ⟨0, 0, [], Nat.zero_le _, Nat.le_refl _, Nat.le_refl _, rfl, rfl, O0.out, rfl, by simp [crL], (fun f hf => nomatch hf), Below.refl _ _⟩
  case round =>
    clear O0
    obtain ⟨j, nx, out, hj, hol, hnx, rfl, rfl, ho, hV, hN, hsub, hb⟩ := hrel
    have hbs := hb.size
    obtain ⟨Av, cv, ev⟩ := ho.shape
    subst ev
    have k1 : Blk wr w.heap.size 53 #[.slice A n c, .int .i64 most, .int .i64 0, .bool false] := K1.out.below hb (by omega)
    have k2 : Blk wr (w.heap.size + 1) 53 #[.slice none 0 0, .int .i64 0, .int .i64 0, .bool false] := K2.out.below hb (by omega)
    obtain ⟨q0, q1, q2, q3, -, -, -⟩ := blk4 k1
    have HB := Lib.hid (B0.out.trans (hb.mono (by omega)))
    have HO := Lib.hid ho
    have H0 := Lib.hid hb
    by_cases hlt : j < n
    · have hlt' : (j : Int) < (n : Int) := by omega
      have hj0 : (0 : Int) ≤ (j : Int) := by omega
      obtain ⟨b, o, rfl, hYb, hbl, hc⟩ := H.out.2.2 (by omega)
      obtain ⟨f, hf⟩ : ∃ f, fs[j]? = some f := ⟨fs[j]'(by omega), List.getElem?_eq_getElem _⟩
      have hmf : f ∈ fs := List.mem_of_getElem? hf
      have hft : (fs.map FR.t)[j]? = some f.t := by rw [List.getElem?_map, hf]; rfl
      have hsn : crL ks 0 ((fs.map FR.t).take (j + 1)) = (out.map FR.t ++ [(cr1 ks (min nx ks.length) f.t).1], (cr1 ks (min nx ks.length) f.t).2) := by
        rw [(take_succ_at hft).1, crL_snoc, hV, hN]
      have y0 : wr.cell? ⟨b, o + j * 3, none⟩ = some (.string ⟨f.nm.toArray⟩) := by rw [HB.out.cell (p := ⟨b, o + j * 3, none⟩) hbl]; exact (hc j f hf).1
      have y1 : wr.cell? ⟨b, o + j * 3 + 1, none⟩ = some (.slice f.B f.bs.length f.c) := by rw [HB.out.cell (p := ⟨b, o + j * 3 + 1, none⟩) hbl]; exact (hc j f hf).2.1
      have y2 : wr.cell? ⟨b, o + j * 3 + 2, none⟩ = some (.int .i64 (f.sf : Nat)) := by rw [HB.out.cell (p := ⟨b, o + j * 3 + 2, none⟩) hbl]; exact (hc j f hf).2.2
      have HFO := Lib.hid (H.out.2.1 f hmf)
      have hfl9 := HLN.out f hmf
      have hsfl := HFO.out.2.2.1
      have HSUB := Lib.hid hsub
      have SN := Lib.hid hsn
      clear hc hf hft ho hb k1 k2 hV hN hsub hsn
      by_cases hsf : f.sf = f.bs.length
      · have hl0 : ¬ (0 : Int) < (f.bs.length : Int) - (f.sf : Int) := by omega
        have hcr : cr1 ks (min nx ks.length) f.t = (f.t, min nx ks.length) := by unfold cr1; exact if_pos hsf
        have HV := Lib.hid (show (out ++ [f]).map FR.t = (crL ks 0 ((fs.map FR.t).take (j + 1))).1 by rw [SN.out, hcr]; simp)
        have HN := Lib.hid (show (crL ks 0 ((fs.map FR.t).take (j + 1))).2 = min nx ks.length by rw [SN.out, hcr])
        have hal := (Below.refl wr.heap.size wr).alloc (Nat.le_refl _) (.cells #[.string ⟨f.nm.toArray⟩, .slice f.B f.bs.length f.c, .int .i64 (f.sf : Nat)] 130)
        obtain ⟨A', c', W', hrun, ho', hb'⟩ := put_file 51 (HO.out.below hal) (by have := hal.size; omega) f (by omega)
        have hsz1 : (wr.alloc (.cells #[.string ⟨f.nm.toArray⟩, .slice f.B f.bs.length f.c, .int .i64 (f.sf : Nat)] 130)).heap.size = wr.heap.size + 1 := by simp
        rw [hsz1] at hrun
        have HRUN := Lib.hid hrun
        have HO' := Lib.hid ho'
        have HB' := Lib.hid (H0.out.trans ((hal.mono (by omega)).trans hb'))
        have HS := Lib.hid (show ∀ g ∈ out ++ [f], FOk w Y g by
          intro g hg
          rcases List.mem_append.1 hg with h1 | h1
          · exact HSUB.out g h1
          · rw [List.mem_singleton.1 h1]; exact HFO.out)
        clear hsz1 hcr hrun ho' hb' hal hsf
        go_wp2_with (at_builtin; refine wpList_append_run rfl (.tmp 58) (.tmp 60) 51 rfl _ _ _ rfl rfl HRUN.out ?_)
        go_roundw
        case rel => exact ⟨j + 1, nx, out ++ [f], by omega, by simp; omega, by omega, by go_num, rfl, by simpa using HO'.out, HV.out, HN.out, HS.out, HB'.out⟩
        case measure => simp [intOf]; omega
      · have hl0 : (0 : Int) < (f.bs.length : Int) - (f.sf : Int) := by omega
        have hnil : 0 < f.bs.length := by omega
        obtain ⟨gb, go, hfB, _, _⟩ := HFO.out.1.2 hnil
        rw [hfB] at y1
        have key : ∀ nn : Nat, nn ≤ f.bs.length - f.sf → crN ks (min nx ks.length) f.t = f.sf + nn → True := fun _ _ _ => trivial
        clear key
        by_cases hnk : nx < ks.length
        · have hnk' : (nx : Int) < (kn : Int) := by omega
          have hnx0 : (0 : Int) ≤ (nx : Int) := by omega
          obtain ⟨kb, ko, rfl, hkb, hkc⟩ := HK.out.2 (by omega)
          obtain ⟨kk, hkk⟩ : ∃ kk, ks[nx]? = some kk := ⟨ks[nx]'hnk, List.getElem?_eq_getElem _⟩
          have z0 : ∀ ob, (wr.alloc ob).cell? ⟨kb, ko + nx, none⟩ = some (.int .i64 kk) := fun ob => by rw [(HB.out.alloc HB.out.size ob).cell (p := ⟨kb, ko + nx, none⟩) hkb]; exact hkc nx kk hkk
          obtain ⟨nn, hnn⟩ : ∃ nn, nn = min kk.toNat (f.bs.length - f.sf) := ⟨_, rfl⟩
          have CB := Lib.hid (fun W => between_any' kk 0 ((f.bs.length : Int) - (f.sf : Int)) W)
          rw [show (f.bs.length : Int) - (f.sf : Int) = ((f.bs.length - f.sf : Nat) : Int) by omega, betw_min, ← hnn, show ((f.bs.length - f.sf : Nat) : Int) = (f.bs.length : Int) - (f.sf : Int) by omega] at CB
          have hcr : cr1 ks (min nx ks.length) f.t = ((f.nm, f.bs.take (f.sf + nn), f.sf + nn), nx + 1) := by
            have e1 : min nx ks.length = nx := by omega
            unfold cr1 crN
            rw [e1, if_neg (show ¬ f.t.2.2 = f.t.2.1.length from hsf), hkk, if_pos hnk, hnn]
            rfl
          have hne : (crL ks 0 ((fs.map FR.t).take (j + 1))).2 = min (nx + 1) ks.length := by rw [SN.out, hcr]; show nx + 1 = _; omega
          have hnl : nn ≤ f.bs.length - f.sf := by omega
          clear hkc hkk hnn
          have hql : (f.bs.take (f.sf + nn)).length = f.sf + nn := by rw [List.length_take]; omega
          have hX : FOk w Y ⟨f.nm, f.bs.take (f.sf + nn), f.sf + nn, f.B, f.c⟩ := ⟨by show BytesAt w f.B (f.bs.take (f.sf + nn)).length _; rw [hql]; exact HFO.out.1.cut (by omega), ⟨by show (f.bs.take (f.sf + nn)).length ≤ f.c; rw [hql]; have := HFO.out.2.1.1; omega, HFO.out.2.1.2⟩, by show f.sf + nn ≤ (f.bs.take (f.sf + nn)).length; rw [hql]; exact Nat.le_refl _, HFO.out.2.2.2.1, fun b o hm e => HFO.out.2.2.2.2 b o hnil e⟩
          have hcc : (f.sf : Int) + (nn : Int) ≤ (f.c : Int) := by have := HFO.out.2.1.1; omega
          have hc0 : (0 : Int) ≤ (f.sf : Int) + (nn : Int) := by omega
          have HV := Lib.hid (show (out ++ [(⟨f.nm, f.bs.take (f.sf + nn), f.sf + nn, f.B, f.c⟩ : FR)]).map FR.t = (crL ks 0 ((fs.map FR.t).take (j + 1))).1 by rw [SN.out, hcr, List.map_append]; rfl)
          have HN := Lib.hid hne
          have HS := Lib.hid (show ∀ g ∈ out ++ [(⟨f.nm, f.bs.take (f.sf + nn), f.sf + nn, f.B, f.c⟩ : FR)], FOk w Y g by
            intro g hg
            rcases List.mem_append.1 hg with h1 | h1
            · exact HSUB.out g h1
            · rw [List.mem_singleton.1 h1]; exact hX)
          have hal := (Below.refl wr.heap.size wr).alloc (Nat.le_refl _) (.cells #[.string ⟨f.nm.toArray⟩, .slice (some ⟨gb, go, none⟩) (f.sf + nn) f.c, .int .i64 ((f.sf : Int) + (nn : Int))] 130)
          obtain ⟨A', c', W', hrun, ho', hb'⟩ := put_file 51 (HO.out.below hal) (by have := hal.size; omega) (⟨f.nm, f.bs.take (f.sf + nn), f.sf + nn, f.B, f.c⟩ : FR) (by omega)
          have hsz1 : (wr.alloc (.cells #[.string ⟨f.nm.toArray⟩, .slice (some ⟨gb, go, none⟩) (f.sf + nn) f.c, .int .i64 ((f.sf : Int) + (nn : Int))] 130)).heap.size = wr.heap.size + 1 := by simp
          rw [hsz1] at hrun
          simp only [hql, hfB] at hrun
          rw [show ((f.sf + nn : Nat) : Int) = (f.sf : Int) + (nn : Int) by omega] at hrun
          have HRUN := Lib.hid hrun
          have HO' := Lib.hid ho'
          have HB' := Lib.hid (H0.out.trans ((hal.mono (by omega)).trans hb'))
          have hnf : nn ≤ 900000000 := by omega
          clear hsz1 hcr hrun ho' hb' hal hsf hX hne hql hfB
          generalize f.bs.length = fl at *
          generalize (⟨f.nm.toArray⟩ : ByteArray) = sa at *
          go_wp2_with fail
          refine (CB.out _).mono ?_
          rintro e w2 ⟨rfl, hw2⟩
          rw [hw2]
          clear hw2 w2 CB
          go_wp2_with (at_builtin; refine wpList_append_run rfl (.tmp 58) (.tmp 60) 51 rfl _ _ _ rfl rfl HRUN.out ?_)
          go_roundw
          case rel => exact ⟨j + 1, nx + 1, _, by omega, by simp; omega, by omega, by go_num, by go_num, by simpa using HO'.out, HV.out, HN.out, HS.out, HB'.out⟩
          case measure => simp [intOf]; omega
        · have hnk' : ¬ (nx : Int) < (kn : Int) := by omega
          obtain ⟨nn, hnn⟩ : ∃ nn, nn = 0 := ⟨_, rfl⟩
          have hcr : cr1 ks (min nx ks.length) f.t = ((f.nm, f.bs.take (f.sf + nn), f.sf + nn), min nx ks.length) := by
            have e1 : min nx ks.length = ks.length := by omega
            unfold cr1 crN
            rw [e1, if_neg (show ¬ f.t.2.2 = f.t.2.1.length from hsf), List.getElem?_eq_none (Nat.le_refl _), if_neg (by omega), hnn]
            rfl
          have hne : (crL ks 0 ((fs.map FR.t).take (j + 1))).2 = min (nx + 1) ks.length := by rw [SN.out, hcr]; show min nx ks.length = _; omega
          have hnl : nn ≤ f.bs.length - f.sf := by omega
          have hql : (f.bs.take (f.sf + nn)).length = f.sf + nn := by rw [List.length_take]; omega
          have hX : FOk w Y ⟨f.nm, f.bs.take (f.sf + nn), f.sf + nn, f.B, f.c⟩ := ⟨by show BytesAt w f.B (f.bs.take (f.sf + nn)).length _; rw [hql]; exact HFO.out.1.cut (by omega), ⟨by show (f.bs.take (f.sf + nn)).length ≤ f.c; rw [hql]; have := HFO.out.2.1.1; omega, HFO.out.2.1.2⟩, by show f.sf + nn ≤ (f.bs.take (f.sf + nn)).length; rw [hql]; exact Nat.le_refl _, HFO.out.2.2.2.1, fun b o hm e => HFO.out.2.2.2.2 b o hnil e⟩
          have hcc : (f.sf : Int) + (nn : Int) ≤ (f.c : Int) := by have := HFO.out.2.1.1; omega
          have hc0 : (0 : Int) ≤ (f.sf : Int) + (nn : Int) := by omega
          have HV := Lib.hid (show (out ++ [(⟨f.nm, f.bs.take (f.sf + nn), f.sf + nn, f.B, f.c⟩ : FR)]).map FR.t = (crL ks 0 ((fs.map FR.t).take (j + 1))).1 by rw [SN.out, hcr, List.map_append]; rfl)
          have HN := Lib.hid hne
          have HS := Lib.hid (show ∀ g ∈ out ++ [(⟨f.nm, f.bs.take (f.sf + nn), f.sf + nn, f.B, f.c⟩ : FR)], FOk w Y g by
            intro g hg
            rcases List.mem_append.1 hg with h1 | h1
            · exact HSUB.out g h1
            · rw [List.mem_singleton.1 h1]; exact hX)
          have hal := (Below.refl wr.heap.size wr).alloc (Nat.le_refl _) (.cells #[.string ⟨f.nm.toArray⟩, .slice (some ⟨gb, go, none⟩) (f.sf + nn) f.c, .int .i64 ((f.sf : Int) + (nn : Int))] 130)
          obtain ⟨A', c', W', hrun, ho', hb'⟩ := put_file 51 (HO.out.below hal) (by have := hal.size; omega) (⟨f.nm, f.bs.take (f.sf + nn), f.sf + nn, f.B, f.c⟩ : FR) (by omega)
          have hsz1 : (wr.alloc (.cells #[.string ⟨f.nm.toArray⟩, .slice (some ⟨gb, go, none⟩) (f.sf + nn) f.c, .int .i64 ((f.sf : Int) + (nn : Int))] 130)).heap.size = wr.heap.size + 1 := by simp
          rw [hsz1] at hrun
          simp only [hql, hfB] at hrun
          rw [show ((f.sf + nn : Nat) : Int) = (f.sf : Int) + (nn : Int) by omega] at hrun
          have HRUN := Lib.hid hrun
          have HO' := Lib.hid ho'
          have HB' := Lib.hid (H0.out.trans ((hal.mono (by omega)).trans hb'))
          have hnf : nn ≤ 900000000 := by omega
          clear hsz1 hcr hrun ho' hb' hal hsf hX hne hql hfB
          generalize f.bs.length = fl at *
          generalize (⟨f.nm.toArray⟩ : ByteArray) = sa at *
          subst hnn
          go_wp2_with (at_builtin; refine wpList_append_run rfl (.tmp 58) (.tmp 60) 51 rfl _ _ _ rfl rfl HRUN.out ?_)
          go_roundw
          case rel => exact ⟨j + 1, nx + 1, _, by omega, by simp; omega, by omega, by go_num, by go_num, by simpa using HO'.out, HV.out, HN.out, HS.out, HB'.out⟩
          case measure => simp [intOf]; omega
    · have hlt' : ¬ (j : Int) < (n : Int) := by omega
      rw [List.take_of_length_le (by rw [List.length_map]; omega)] at hV
      have HV := Lib.hid hV
      have HS := Lib.hid hsub
      have f0 := k1.frozen 0
      obtain ⟨r0, r1, r2, r3, g1, g2, g3⟩ := blk4 k2
      have g0 := k2.frozen 0
      have K3 := Lib.hid k1
      clear hV hsub ho hb k1 k2
      have b2 := (((((HB.out.setCell (p := ⟨w.heap.size, 0, none⟩) (Nat.le_refl _) (.slice Av out.length cv)).setCell (p := ⟨w.heap.size + 1, 0, none⟩) (Nat.le_succ _) (.slice Av out.length cv)).setCell (p := ⟨w.heap.size + 1, 1, none⟩) (Nat.le_succ _) (.int .i64 most)).setCell (p := ⟨w.heap.size + 1, 2, none⟩) (Nat.le_succ _) (.int .i64 0)).setCell (p := ⟨w.heap.size + 1, 3, none⟩) (Nat.le_succ _) (.bool false))
      have o2 := (((((HO.out.set_ (p := ⟨w.heap.size, 0, none⟩) (show w.heap.size < w.heap.size + 2 by omega) (.slice Av out.length cv)).set_ (p := ⟨w.heap.size + 1, 0, none⟩) (Nat.lt_succ_self _) (.slice Av out.length cv)).set_ (p := ⟨w.heap.size + 1, 1, none⟩) (Nat.lt_succ_self _) (.int .i64 most)).set_ (p := ⟨w.heap.size + 1, 2, none⟩) (Nat.lt_succ_self _) (.int .i64 0)).set_ (p := ⟨w.heap.size + 1, 3, none⟩) (Nat.lt_succ_self _) (.bool false))
      have FIN := Lib.hid (fs_fin (most := most) (fuse := 0) (down := false) b2 o2 (by omega) HS.out hY HV.out)
      clear b2 o2
      go_wp2
      refine bodyPost_ret (v := .agg #[.slice Av out.length cv, .int .i64 most, .int .i64 0, .bool false]) (by simp [results, Try.results29, go_sem, *]) rfl ?_
      exact FIN.out
end Go.Proofs.Yteokiaeojgjpdaa
