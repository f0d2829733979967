/- PatFinds' walk. -/
import Derived.Test.YtjnhmcgjeljcmaaFg
namespace Go.Proofs.Ytjnhmcgjeljcmaa
open Go.RowKit Go.Maps

theorem rpfind_any {w : World} {kind : Int} (hk : 1 ≤ kind ∧ kind ≤ 3) (s : ByteArray) (hs : s.size ≤ 40) {d dd : Nat} {kk : Int} {A1 A2 : Option Addr} {n1 c1 n2 c2 : Nat} (hz : (patP kind s.data.toList).2.1 = 0) (hg0 : GoodT dd (patP kind s.data.toList).1) (ht : kind ≠ 1 → GoodT d (patP kind s.data.toList).1 ∧ TreeAt w (· < w.heap.size) d (patP kind s.data.toList).1 [.int .i64 kk, .slice A1 n1 c1, .slice A2 n2 c2]) {A : Option Addr} {m c : Nat} {bs : List UInt8} (hb : BytesAt w A m bs) (hm : m ≤ 99000) (hc : m ≤ c) :
    Calls Try.prog 25 #[.agg #[.int .i64 kind, .string s, .int .i64 kk, .slice A1 n1 c1, .slice A2 n2 c2], .slice A m c] w (RfPost w dd (patP kind s.data.toList).1 bs) := by
  by_cases h1 : kind = 1
  · subst h1
    have hl : s.data.toList.length = s.size := rfl
    have e : patP 1 s.data.toList = (exactT s.data.toList, 0, 0) := by unfold patP exactP; rw [if_pos rfl, if_neg (by omega)]
    rw [e] at hg0 ⊢
    exact rpfind_exact s hg0 hb hm (by omega) hc
  · obtain ⟨hg, htr⟩ := ht h1
    refine (rpfind_tree h1 s htr hg hb hm).mono ?_
    rintro e w' ⟨a, b, ok, rfl, hf, hbw⟩
    exact ⟨a, b, ok, rfl, findR_deep hg hg0 hf, hbw⟩
set_option maxHeartbeats 4000000 in
set_option maxRecDepth 100000 in
theorem patFinds_walk {w : World} (kind : Int) (s : ByteArray) {A : Option Addr} {n c : Nat} {bs : List UInt8} (hs0 : s.size ≤ maxLen) (hb : BytesAt w A n bs) (hc : n ≤ c) (hn : n ≤ 140737488355328) :
    Calls Try.prog 9 #[.int .i64 kind, .string s, .slice A n c] w (AlivePost w) := by
  have HBS := Lib.hid hb
  have HRC := Lib.hid (fun W => rcomp_any kind s W hs0)
  unfold maxLen at hs0
  clear hb
  rcases Nat.lt_or_ge 40 s.size with h40 | h40
  · have h40' : (40 : Int) < (s.size : Int) := by omega
    go_enter Try.func9, Try.ntmps9
    go_wp2_with fail
    refine (palive_any _).mono ?_
    rintro e w1 ⟨rfl, b1⟩
    go_wp2
    go_ret
    exact ⟨rfl, b1⟩
  have h40' : ¬ (40 : Int) < (s.size : Int) := by omega
  rcases Nat.lt_or_ge 30 n with h30 | h30
  · have h30' : (30 : Int) < (n : Int) := by omega
    go_enter Try.func9, Try.ntmps9
    go_wp2_with fail
    refine (palive_any _).mono ?_
    rintro e w1 ⟨rfl, b1⟩
    go_wp2
    go_ret
    exact ⟨rfl, b1⟩
  have h30' : ¬ (30 : Int) < (n : Int) := by omega
  go_enter Try.func9, Try.ntmps9
  go_wp2_with fail
  refine (palive_any _).mono ?_
  rintro e w1 ⟨rfl, b1⟩
  have B1 := Lib.hid b1
  have H1 := Lib.hid (HBS.out.below b1)
  clear b1
  go_wp2_with fail
  refine (pcomp_any kind s _).mono ?_
  rintro e w2 (⟨h0, p, X, pp, dd, rfl, hP, hx, hb2⟩ | ⟨h0, rfl, hb2⟩)
  rotate_right
  · have B2 := Lib.hid (B1.out.trans (hb2.mono B1.out.size))
    have hc2 : ((patP kind s.data.toList).2.1 != 0) = true := by simpa using h0
    have H0 := Lib.hid h0
    clear hb2 h0
    obtain ⟨cc, hcc⟩ : ∃ cc, cc = (patP kind s.data.toList).2.1 := ⟨_, rfl⟩
    obtain ⟨oo, hoo⟩ : ∃ oo, oo = (patP kind s.data.toList).2.2 := ⟨_, rfl⟩
    have HRD := Lib.hid (fun W => (HRC.out W).mono fun e w' h => (show (e = .returned (.tuple #[.agg #[.int .i64 0, .string ⟨#[]⟩, .int .i64 0, .slice none 0 0, .slice none 0 0], .int .i64 cc, .int .i64 (oo : Nat)])) ∧ Below W.heap.size W w' by
      rcases h with ⟨h1, _⟩ | ⟨_, h1, h2⟩
      · exact absurd h1 H0.out
      · rw [hcc, hoo]; exact ⟨h1, h2⟩))
    rw [← hcc] at hc2
    rw [← hcc, ← hoo]
    clear HRC H0 hcc hoo
    go_wp2_with fail
    refine (HRD.out _).mono ?_
    rintro e w3 ⟨rfl, b3⟩
    have B3 := Lib.hid (B2.out.trans (b3.mono B2.out.size))
    have hB3 := B3.out.size
    clear b3
    go_wp2
    go_ret
    exact ⟨rfl, B3.out.alloc hB3 _⟩
  have hk13 : 1 ≤ kind ∧ kind ≤ 3 := by
    by_cases h : kind < 1 ∨ 3 < kind
    · exfalso
      unfold patP at h0
      rw [if_neg (by omega), if_neg (by omega), if_neg (by omega)] at h0
      exact absurd h0 (by decide)
    · omega
  have H0 := Lib.hid h0
  have P2 := Lib.hid hP
  have X2 := Lib.hid hx
  have H2 := Lib.hid (H1.out.below hb2)
  have B2 := Lib.hid (B1.out.trans (hb2.mono B1.out.size))
  have HA := Lib.hid (bytes_old (X := fun j => X j ∨ j = p) H1.out hx)
  have PW := Lib.hid (fun j (hj : j = pp) => show w.heap.size ≤ j from Nat.le_trans B1.out.size (hx j (.inl (hj ▸ hP.in_))))
  have PL := Lib.hid (P2.out.old P2.out.in_)
  clear hP hx hb2 h0
  go_wp2_with fail
  refine (HRC.out _).mono ?_
  rintro e w3 (⟨_, d, kk, A1, n1, c1, A2, n2, c2, rfl, ht, b3⟩ | ⟨h1, _⟩)
  rotate_left
  · exact absurd H0.out h1
  have b4 : Below w2.heap.size w2 (w3.alloc (.cells #[.int .i64 kind, .string s, .int .i64 kk, .slice A1 n1 c1, .slice A2 n2 c2] 45)) := b3.alloc b3.size _
  have P4 := Lib.hid (P2.out.below b4)
  have H4 := Lib.hid (H2.out.below b4)
  have B4 := Lib.hid (B2.out.trans (b4.mono B2.out.size))
  have HK4 := Lib.hid (Blk.new w3 45 #[.int .i64 kind, .string s, .int .i64 kk, .slice A1 n1 c1, .slice A2 n2 c2])
  have HT4 := Lib.hid (fun hk => (show GoodT d (patP kind s.data.toList).1 ∧ TreeAt (w3.alloc (.cells #[.int .i64 kind, .string s, .int .i64 kk, .slice A1 n1 c1, .slice A2 n2 c2] 45)) (Fresh w2 w3) d (patP kind s.data.toList).1 [.int .i64 kk, .slice A1 n1 c1, .slice A2 n2 c2] from ⟨(ht hk).1, (ht hk).2.keep fun j hj => Below.heap_alloc _ _ _ hj.2⟩))
  have hs32 := b3.size
  have hcv := conv_str H4.out c
  clear b3 b4 ht
  go_wp2_with fail
  refine (pfind_any P4.out H4.out (fun h b o e hb => HA.out h b o e (.inl hb)) (by omega)).mono ?_
  rintro e w5 ⟨a, z, ok, rfl, hf5, -, hk5⟩
  have F5 := Lib.hid hf5
  have hsz5 : w3.heap.size + 1 ≤ w5.heap.size := by have := hk5.size; simpa using this
  have HPP := Lib.hid (show pp < w2.heap.size from PL.out)
  have H5 := Lib.hid (BytesAt.keep (w' := w5) H4.out (fun hm b o e hl => hk5.block b hl (fun hb => HA.out hm b o e (.inl (hb ▸ P2.out.in_)))) hk5.size)
  have HK5 := Lib.hid (show Blk w5 w3.heap.size 45 #[.int .i64 kind, .string s, .int .i64 kk, .slice A1 n1 c1, .slice A2 n2 c2] from (hk5.block w3.heap.size (by simp) (by have := HPP.out; omega)).trans HK4.out)
  have B5 := Lib.hid (B4.out.trans (hk5.below B4.out.size PW.out))
  have HR5 := Lib.hid (rpfind_any (w := w5) (d := d) (kk := kk) (A1 := A1) (n1 := n1) (c1 := c1) (A2 := A2) (n2 := n2) (c2 := c2) hk13 s h40 H0.out P2.out.good (fun hk => ⟨(HT4.out hk).1, ((HT4.out hk).2.keep (w' := w5) fun j hj => hk5.block j (by have := hj.2; simp; omega) (by have := hj.1; have := HPP.out; omega)).mono fun j hj => by have := hj.2; omega⟩) H5.out (by omega) hc)
  have hcv5 := conv_str H5.out c
  have k0 := HK5.out.cell 0
  have k1 := HK5.out.cell 1
  have k2 := HK5.out.cell 2
  have k3 := HK5.out.cell 3
  have k4 := HK5.out.cell 4
  clear hf5 hk5
  go_wp2_with fail
  refine HR5.out.mono ?_
  rintro e w6 ⟨a2, z2, ok2, rfl, hf6, b6⟩
  obtain ⟨rfl, rfl, rfl⟩ := findR_one F5.out hf6
  have H6 := Lib.hid (H5.out.below b6)
  have hcv6 := conv_str H6.out c
  have B6 := Lib.hid (B5.out.trans (b6.mono B5.out.size))
  clear hf6 b6 k0 k1 k2 k3 k4
  go_wp2
  go_ret
  exact ⟨rfl, B6.out⟩
end Go.Proofs.Ytjnhmcgjeljcmaa
