/- Append, whole. -/
import Derived.Test.YtdhiofbimebbkaaDoorVg
namespace Go.Proofs.YtdhiofbimebbkaaDoor
open Go.RowKit Go.Maps

def appendS (nm bs : List UInt8) (s : Sta) : Int × Sta := onFile nm s fun t => if s.free < bs.length then (71, s) else stepS s fun s => { s with V := vset (t.1, t.2.1 ++ bs, t.2.2) s.V, free := s.free - bs.length }
section
variable {w : World} {dp bm free fuse : Nat} {M : List Fl} {down : Bool}
set_option maxHeartbeats 1000000 in
set_option maxRecDepth 100000 in
theorem append_any (h : FsAt w dp bm M free fuse down) (s : ByteArray) (hs : s.size ≤ maxLen) {A : Option Addr} {m c : Nat} {bs : List UInt8} (hb : BytesAt w A m bs) (hdj : 0 < m → ∀ b o, A = some ⟨b, o, none⟩ → b ≠ dp) (hfr : free ≤ 9223372036854775807) (hl : ∀ f ∈ M, f.bytes.length + m ≤ 1000000000) (_ : m ≤ 1000000000) (hfu : fuse ≤ 9223372036854775807) :
    Calls Tryd.prog 16 #[.pointer (some ⟨dp, 0, none⟩), .string s, .slice A m c] w (Res w dp (Own dp bm M) (appendS s.data.toList bs ⟨M.map vw, free, fuse, down⟩)) := by
  have hbl := hb.1
  have h0 := (h.alloc (.cells #[.pointer (some ⟨dp, 0, none⟩)] 23)).alloc (.cells #[.slice A m c] 30)
  have k0 : Kept (Own dp bm M) w ((w.alloc (.cells #[.pointer (some ⟨dp, 0, none⟩)] 23)).alloc (.cells #[.slice A m c] 30)) := ((Kept.refl _ w).alloc _).alloc _
  rcases file_cases h s hs with ⟨f, hlk, hd, hf, hnm, hon, hc⟩ | ⟨cd, hc0, hon, hc⟩
  · have hmf : ∀ (fn : Fn) (first cap : Array Value) (w : World), (Instr.makeFunc fn first cap).run Tryd.prog w = .ok (.func fn first cap) w := fun _ _ _ _ => rfl
    have h1 := h0.alloc (.cells #[.pointer (some ⟨f.fb, 0, none⟩)] 62)
    have k1 := k0.alloc (.cells #[.pointer (some ⟨f.fb, 0, none⟩)] 62)
    have HC := Lib.hid (hc _ h0)
    have T1 : w.cell? ⟨dp, 1, none⟩ = some (.int .i64 (free : Nat)) := h.top.cell 1
    have l0 := h.top.lt
    have l1 : dp < w.heap.size + 1 := by omega
    have l2 : dp < w.heap.size + 1 + 1 := by omega
    have hfl := hl f hf
    by_cases hrm : free < m
    · have HR := Lib.hid (show appendS s.data.toList bs ⟨M.map vw, free, fuse, down⟩ = (71, ⟨M.map vw, free, fuse, down⟩) by
        unfold appendS; rw [hon, if_pos (by rw [hbl]; exact hrm)])
      have hrm' : (free : Int) < (m : Int) := by omega
      clear hlk hd hnm hon hc hl
      go_enter Tryd.func16, Tryd.ntmps16
      go_wp2_with fail
      refine HC.out.mono ?_
      rintro e w' ⟨rfl, rfl⟩
      go_wp2
      go_quiet (fail)
      go_wp2
      go_ret
      rw [HR.out]
      exact ⟨rfl, _, ⟨bm, M, h1.drewN _, rfl, rfl⟩, fun j hj => .inl hj, k1.drewN _⟩
    · have HR := Lib.hid (show appendS s.data.toList bs ⟨M.map vw, free, fuse, down⟩ = stepS ⟨M.map vw, free, fuse, down⟩ fun s1 => { s1 with V := vset (f.name, f.bytes ++ bs, f.safe) s1.V, free := s1.free - bs.length } by
        unfold appendS; rw [hon, if_neg (by rw [hbl]; exact hrm)]; rfl)
      have hrm' : ¬ (free : Int) < (m : Int) := by omega
      have hmf2 : m ≤ free := by omega
      have B0 : Blk (((w.alloc (.cells #[.pointer (some ⟨dp, 0, none⟩)] 23)).alloc (.cells #[.slice A m c] 30)).alloc (.cells #[.pointer (some ⟨f.fb, 0, none⟩)] 62)) w.heap.size 23 #[.pointer (some ⟨dp, 0, none⟩)] := ((Blk.new w _ _).alloc _).alloc _
      have B1 : Blk (((w.alloc (.cells #[.pointer (some ⟨dp, 0, none⟩)] 23)).alloc (.cells #[.slice A m c] 30)).alloc (.cells #[.pointer (some ⟨f.fb, 0, none⟩)] 62)) (w.heap.size + 1) 30 #[.slice A m c] := by simpa using (Blk.new (w.alloc (.cells #[.pointer (some ⟨dp, 0, none⟩)] 23)) 30 #[.slice A m c]).alloc (.cells #[.pointer (some ⟨f.fb, 0, none⟩)] 62)
      have B2 : Blk (((w.alloc (.cells #[.pointer (some ⟨dp, 0, none⟩)] 23)).alloc (.cells #[.slice A m c] 30)).alloc (.cells #[.pointer (some ⟨f.fb, 0, none⟩)] 62)) (w.heap.size + 1 + 1) 62 #[.pointer (some ⟨f.fb, 0, none⟩)] := by simpa using Blk.new ((w.alloc (.cells #[.pointer (some ⟨dp, 0, none⟩)] 23)).alloc (.cells #[.slice A m c] 30)) 62 #[.pointer (some ⟨f.fb, 0, none⟩)]
      have n0 : ¬ Own dp bm M w.heap.size := fun ho => absurd (h.own_lt ho) (by omega)
      have n1 : ¬ Own dp bm M (w.heap.size + 1) := fun ho => absurd (h.own_lt ho) (by omega)
      have n2 : ¬ Own dp bm M (w.heap.size + 1 + 1) := fun ho => absurd (h.own_lt ho) (by omega)
      have HB := Lib.hid (fun (n : Nat) (u : Value) => show BytesAt (((((w.alloc (.cells #[.pointer (some ⟨dp, 0, none⟩)] 23)).alloc (.cells #[.slice A m c] 30)).alloc (.cells #[.pointer (some ⟨f.fb, 0, none⟩)] 62)).drewN n).setCell ⟨dp, 2, none⟩ u) A m bs from
        hb.keep (fun hm0 b o e hlt => (Below.heap_setCell _ _ _ _ (hdj hm0 b o e)).trans ((Below.heap_alloc _ _ b (by simp; omega)).trans ((Below.heap_alloc _ _ b (by simp; omega)).trans (Below.heap_alloc w _ b hlt)))) (by simp [World.setCell]; omega))
      clear hlk hd hnm hon hc hl hb hrm
      by_cases hf1 : fuse = 1
      · subst hf1
        go_enter Tryd.func16, Tryd.ntmps16
        go_wp2_with fail
        refine HC.out.mono ?_
        rintro e w' ⟨rfl, rfl⟩
        go_wp2
        go_quiet (fail)
        go_wp2_with fail
        refine (step_off (h1.drewN _) _).mono ?_
        rintro e w' ⟨rfl, hF, hK⟩
        go_wp2
        go_ret
        rw [HR.out]
        exact Res.off rfl ⟨_, ⟨bm, M, hF, rfl, rfl⟩, fun j hj => .inl hj, (k1.drewN _).trans hK (fun j hj => .inl hj)⟩
      · have HF := Lib.hid hf1
        clear hf1
        go_enter Tryd.func16, Tryd.ntmps16
        go_wp2_with fail
        refine HC.out.mono ?_
        rintro e w' ⟨rfl, rfl⟩
        go_wp2
        go_quiet (fail)
        go_wp2_with fail
        refine (step_on (h1.drewN _) HF.out hfu 37 _ (fun args W => by kernel_rfl) _ (append1_any (c := c) ((h1.drewN _).set2 _) (w.heap.size + 1 + 1) (w.heap.size + 1) w.heap.size hf ?_ ?_ ?_ n2 n1 n0 (HB.out _ _) hmf2 hfr hfl)).mono ?_
        · exact ((B2.drewN _).far (p := ⟨dp, 2, none⟩) (by show w.heap.size + 1 + 1 ≠ dp; omega) _).cell 0
        · exact ((B1.drewN _).far (p := ⟨dp, 2, none⟩) (by show w.heap.size + 1 ≠ dp; omega) _).cell 0
        · exact ((B0.drewN _).far (p := ⟨dp, 2, none⟩) (by show w.heap.size ≠ dp; omega) _).cell 0
        rintro e w' ⟨rfl, x, hx, hF, hO, hK⟩
        go_wp2
        go_ret
        rw [HR.out]
        refine Res.step HF.out ⟨_, ⟨bm, updF x M, ?_, ?_, rfl⟩, fun j hj => ?_, ((k1.drewN _).set_ (p := ⟨dp, 2, none⟩) (.inl (.inl rfl)) _).trans hK (fun j hj => .inl hj)⟩
        · rw [hbl]; exact hF
        · rw [map_upd, hx]
        · rcases hO j hj with h2 | h2
          · exact .inl h2
          · exact .inr (Nat.le_trans (by simp [World.setCell]; omega) h2)
  · have HR := Lib.hid (show appendS s.data.toList bs ⟨M.map vw, free, fuse, down⟩ = (cd, ⟨M.map vw, free, fuse, down⟩) from hon _)
    have HC := Lib.hid (hc _ h0)
    have hcb : (cd != 0) = true := by simpa using hc0
    clear hon hc hc0
    go_enter Tryd.func16, Tryd.ntmps16
    go_wp2_with fail
    refine HC.out.mono ?_
    rintro e w' ⟨rfl, rfl⟩
    go_wp2
    go_ret
    rw [HR.out]
    exact ⟨rfl, _, ⟨bm, M, h0.alloc _, rfl, rfl⟩, fun j hj => .inl hj, k0.alloc _⟩
end
end Go.Proofs.YtdhiofbimebbkaaDoor
