/- GlobMatches answers true. -/
import Derived.Test.YtepfpmnfecehbaaKyd
import Derived.Test.YtepfpmnfecehbaaRz
import Derived.Test.YtepfpmnfecehbaaAl
import Derived.Deep.RegionWith
namespace Go.Proofs.Ytepfpmnfecehbaa
open Go.RowKit Go.Maps

theorem piece_good {t : Tr} (h : IsPc t) (d : Nat) : GoodT (d + 2) t := by
  rcases h with ⟨rs, rfl⟩ | rfl
  · exact ⟨by decide, by decide, fun h => absurd h (by decide), fun t h => nomatch h⟩
  · refine ⟨by decide, by decide, fun _ h => (List.cons_ne_nil _ _ h), fun t h => ?_⟩
    obtain rfl := List.mem_singleton.1 h
    exact ⟨by decide, by decide, fun h => absurd h (by decide), fun t h => nomatch h⟩
theorem globTab (p s : List UInt8) (hc : (parseG p).2.1 = 0) (d : Nat) : GoodT (d + 3) (parseG p).1 ∧ matchG p s = tabT s (d + 3) (parseG p).1 0 s.length := by
  have hr := parseG_res p
  by_cases hl : 256 < p.length
  · rw [if_pos hl] at hr
    rw [hr] at hc
    exact absurd hc (by decide)
  · rw [if_neg hl] at hr
    cases hp : piecesF p with
    | err c o =>
      rw [hp] at hr
      rw [hr] at hc
      exact absurd hc (piecesF_code hp)
    | ok ts =>
      rw [hp] at hr
      have hpc : ∀ t, t ∈ ts → IsPc t := piecesP_isPc (p.length + 1) p ts hp
      have e1 : (parseG p).1 = .mk 2 [] ts := by rw [hr]; rfl
      refine ⟨by rw [e1]; exact ⟨by decide, by decide, fun h => absurd h (by decide), fun t h => piece_good (hpc t h) d⟩, ?_⟩
      have e2 : matchG p s = gm (ts.map pcOf) s := by
        unfold matchG; rw [hr]; show (decide ((0 : Int) = 0) && _) = _; simp
      rw [e2, e1]
      have e3 : tabT s (d + 3) (.mk 2 [] ts) = ts.foldl (fun T t => bothT T (tabT s (d + 2) t) (s.length + 1)) eqT := by
        show (if (2 : Int) = 1 then _ else _) = _
        rw [if_neg (by decide), if_pos rfl]
      rw [e3, Bool.eq_iff_iff, fold_tab ts eqT hpc]
      constructor
      · intro h; exact ⟨0, by omega, by simp [eqT], h⟩
      · rintro ⟨m, _, h1, h2⟩
        obtain rfl : 0 = m := by simpa [eqT] using h1
        exact h2
theorem match_code {p : List UInt8} (s : List UInt8) (h : (parseG p).2.1 ≠ 0) : matchG p s = false := by
  unfold matchG
  generalize parseG p = R at h
  obtain ⟨⟨k, rs, ts⟩, c, a⟩ := R
  have h' : c ≠ 0 := h
  show (decide (c = 0) && _) = false
  rw [decide_eq_false h', Bool.false_and]
set_option maxHeartbeats 2000000 in
set_option maxRecDepth 100000 in
theorem globMatches_walk (p s : ByteArray) (hp : p.size ≤ maxLen) (hs : s.size ≤ maxLen) (w : World) :
    Calls Try.prog 3 #[.string p, .string s] w fun e w' => e = .returned (.bool true) ∧ Below w.heap.size w w' := by
  have HA := Lib.hid (alive_any w)
  have HM := Lib.hid (fun W => match_any p s W hs)
  have HP := Lib.hid (fun W => rparse_any p W hp)
  by_cases h60 : s.size ≤ 60
  · have h60' : ¬ (60 : Int) < (s.size : Int) := by omega
    have HG := Lib.hid (fun h d => globTab p.data.toList s.data.toList h d)
    have HNO := Lib.hid (fun h => match_code (p := p.data.toList) s.data.toList h)
    generalize hR : parseG p.data.toList = R at *
    obtain ⟨t, code, at_⟩ := R
    generalize hB : matchG p.data.toList s.data.toList = mb at *
    have HB := Lib.hid hB
    have HR := Lib.hid hR
    clear hR hB
    by_cases hc : code = 0
    · have HC := Lib.hid hc
      have hc' : ((code : Int) != 0) = false := by simp [hc]
      clear hc
      go_enter Try.func3, Try.ntmps3
      go_wp2_with fail
      refine HA.out.mono ?_
      rintro e w1 ⟨rfl, b1⟩
      go_wp2_with fail
      refine (HP.out _).mono ?_
      rintro e w2 ⟨d, k, A, n, c, A', n', c', rfl, ht, b2⟩
      obtain ⟨hgd, htab⟩ := HG.out HC.out d
      have c2 := b1.trans (b2.mono b1.size)
      have HT := Lib.hid (fun (W : World) (hW : Below w2.heap.size w2 W) => table_any (d + 3) t (.int .i64 k) (.slice A n c) (.slice A' n' c') s W (((ht.keep (w' := W) fun b hb => hW.block b hb.2).mono fun b hb => Nat.lt_of_lt_of_le hb.2 hW.size).deeper (by omega)) hgd (by omega))
      have HTAB := Lib.hid htab
      have HC2 := Lib.hid c2
      clear ht hgd htab c2 b1 b2
      have hk0 := Blk.new w2 26 #[.int .i64 k, .slice A n c, .slice A' n' c']
      have hb0 : Below w2.heap.size w2 (w2.alloc (.cells #[.int .i64 k, .slice A n c, .slice A' n' c'] 26)) := (Below.refl _ w2).alloc (Nat.le_refl _) _
      have hsz : (w2.alloc (.cells #[.int .i64 k, .slice A n c, .slice A' n' c'] 26)).heap.size = w2.heap.size + 1 := by simp
      go_wp2_with fail
      generalize w2.alloc (.cells #[.int .i64 k, .slice A n c, .slice A' n' c'] 26) = W at hk0 hb0 hsz ⊢
      have HK := Lib.hid (fun (V : World) (hV : Below (w2.heap.size + 1) W V) => blk3 (hk0.below hV (Nat.lt_succ_self _)))
      have HT2 := Lib.hid (fun (V : World) (hV : Below (w2.heap.size + 1) W V) => HT.out V (hb0.trans (hV.mono (Nat.le_succ _))))
      have hbM : Below (w2.heap.size + 1) W W.drew := ⟨rfl, rfl, rfl, Nat.le_refl _, fun _ _ => rfl⟩
      obtain ⟨x0, x1, x2, -, -, -⟩ := HK.out _ hbM
      have HB0 := Lib.hid (HC2.out.trans (hb0.mono HC2.out.size))
      have HTT := Lib.hid (show tabT s.data.toList (d + 3) t 0 s.size = mb from HTAB.out.symm)
      clear hk0 hb0 HT HTAB
      go_region_with (first
        | (go_at_call 15; refine (HM.out _).mono ?_; rintro e wm ⟨rfl, hbm⟩
           replace hbM := hbM.trans (hbm.mono (by have := hbM.size; omega))
           obtain ⟨x0, x1, x2, -, -, -⟩ := HK.out _ hbM
           try replace ht := ht.below hbm
           try have r0 := ht.row 0 (by omega)
           try have c0 := (ht.cell 0 s.size (by omega) (by omega)).1
           try rw [HTT.out] at c0)
        | (go_at_call 16; refine (HT2.out _ hbM).mono ?_; rintro e wt ⟨g, rb, cc, rfl, hcc, ht, hbt⟩
           replace hbM := hbM.trans (hbt.mono (by have := hbM.size; omega))
           have r0 := ht.row 0 (by omega)
           have c0 := (ht.cell 0 s.size (by omega) (by omega)).1
           rw [HTT.out] at c0))
      all_goals
        go_wp2
        go_ret
        exact ⟨ret_bool (by simp), HB0.out.trans (hbM.mono (by have := HC2.out.size; omega))⟩
    · have hc' : ((code : Int) != 0) = true := by simp [hc]
      have HMF := Lib.hid (show mb = false from HNO.out hc)
      clear hc
      go_enter Try.func3, Try.ntmps3
      go_wp2_with fail
      refine HA.out.mono ?_
      rintro e w1 ⟨rfl, b1⟩
      go_wp2_with fail
      refine (HP.out _).mono ?_
      rintro e w2 ⟨d, k, A, n, c, A', n', c', rfl, ht, b2⟩
      have c2 := (b1.trans (b2.mono b1.size)).alloc (b1.trans (b2.mono b1.size)).size (.cells #[.int .i64 k, .slice A n c, .slice A' n' c'] 26)
      clear ht b1 b2
      go_wp2_with fail
      refine (HM.out _).mono ?_
      rintro e w3 ⟨rfl, b3⟩
      have c3 := c2.trans (b3.mono c2.size)
      rw [HMF.out]
      go_wp2
      go_ret
      exact ⟨rfl, c3⟩
  · have h60' : (60 : Int) < (s.size : Int) := by omega
    go_enter Try.func3, Try.ntmps3
    go_wp2_with fail
    refine HA.out.mono ?_
    rintro e w1 ⟨rfl, b1⟩
    go_wp2
    go_ret
    exact ⟨rfl, b1⟩
end Go.Proofs.Ytepfpmnfecehbaa
