/- PatExact's walk. -/
import Derived.Test.YtponepcgokfiiaaFg
import Derived.Test.YtponepcgokfiiaaFh
namespace Go.Proofs.Ytponepcgokfiiaa
open Go.RowKit Go.Maps

theorem EncG.snoc {l e : List UInt8} (c : UInt8) (h : EncG l e) : EncG (l ++ [c]) (e ++ [92, c]) := by
  induction h with
  | nil => exact .quoted .nil
  | plain h _ ih => exact .plain h ih
  | quoted _ ih => exact .quoted ih
theorem EncX.snoc1 {l e : List UInt8} {c : UInt8} (hc : specX c = false) (h : EncX l e) : EncX (l ++ [c]) (e ++ [c]) := by
  induction h with
  | nil => exact .plain hc .nil
  | plain h _ ih => exact .plain h ih
  | quoted h _ ih => exact .quoted h ih
theorem EncX.snoc2 {l e : List UInt8} {c : UInt8} (hc : specX c = true) (h : EncX l e) : EncX (l ++ [c]) (e ++ [92, c]) := by
  induction h with
  | nil => exact .quoted hc .nil
  | plain h _ ih => exact .plain h ih
  | quoted h _ ih => exact .quoted h ih
def GoodC (W : World) (kind : Int) (s : ByteArray) (l : List UInt8) (e : Ending) (W' : World) : Prop :=
  ∃ p X pp d, e = .returned (.tuple #[.pointer (some ⟨p, 0, none⟩), .int .i64 0, .int .i64 0]) ∧ PatAt W' X p kind s pp d (exactT l) ∧ (∀ j, X j ∨ j = p → W.heap.size ≤ j) ∧ Below W.heap.size W W'
theorem goodC_of {kind : Int} {s : ByteArray} {l : List UInt8} (hp : patP kind s.data.toList = (exactT l, 0, 0)) (W : World) : Calls Try.prog 13 #[.int .i64 kind, .string s] W (GoodC W kind s l) := by
  refine (pcomp_any kind s W).mono ?_
  rintro e W' (⟨_, p, X, pp, d, rfl, hP, hx, hb⟩ | ⟨h0, _⟩)
  · rw [hp] at hP
    exact ⟨p, X, pp, d, rfl, hP, hx, hb⟩
  · rw [hp] at h0; exact absurd rfl h0
theorem patP1 {l : List UInt8} (h : l.length ≤ 256) : patP 1 l = (exactT l, 0, 0) := by
  unfold patP exactP
  rw [if_pos rfl, if_neg (by omega)]
theorem patP2 {l e : List UInt8} (h : EncG l e) (hl : e.length ≤ 256) : patP 2 e = (exactT l, 0, 0) := by
  unfold patP
  rw [if_neg (by decide), if_pos rfl, encG_parse h hl]
theorem patP3 {l e : List UInt8} (h : EncX l e) (hl : e.length ≤ 256) : patP 3 e = (exactT l, 0, 0) := by
  unfold patP
  rw [if_neg (by decide), if_neg (by decide), if_pos rfl, encX_parse h hl]
theorem same_find {bs : List UInt8} {d d' : Nat} {t : Tr} {a z a' z' : Int} {ok ok' : Bool} (hg : GoodT d t) (hg' : GoodT d' t) (h : findR bs d t a z ok) (h' : findR bs d' t a' z' ok') : a = a' ∧ z = z' ∧ ok = ok' :=
  findR_one h (findR_deep hg' hg h')
/-- What a text's own tree finds. -/
theorem exact_find {bs l : List UInt8} {d : Nat} {a z : Int} {ok : Bool} (hg : GoodT d (exactT l)) (h : findR bs d (exactT l) a z ok) :
    (ok = false → 0 < l.length) ∧ (ok = true → ∃ f u : Nat, a = (f : Nat) ∧ z = (u : Nat) ∧ f ≤ u ∧ u ≤ bs.length ∧ (bs.drop f).take (u - f) = l) := by
  rcases h with ⟨e1, _, _, hn⟩ | ⟨e1, f, u, e2, e3, hf, hu, hm, _⟩
  · refine ⟨fun _ => ?_, fun e => by rw [e1] at e; cases e⟩
    rcases Nat.eq_zero_or_pos l.length with h0 | h0
    · exact absurd ((exact_Mt l d 0 0 hg (Nat.zero_le _)).2 ⟨by omega, Nat.zero_le _, by rw [h0, List.eq_nil_of_length_eq_zero h0]; rfl⟩) (hn 0 0 (Nat.zero_le _) (Nat.zero_le _))
    · exact h0
  · refine ⟨(fun e => by rw [e1] at e; cases e), fun _ => ⟨f, u, e2, e3, ?_⟩⟩
    obtain ⟨k1, k2, k3⟩ := (exact_Mt l d f u hg hf).1 hm
    refine ⟨by omega, hu, ?_⟩
    rw [show u - f = l.length by omega]
    exact k3
/-- Three patterns of one tree, the one behind the other. -/
structure Three (w : World) (X Y Z : Nat → Prop) (p q r : Nat) (kp kq kr : Int) (sp sq sr : ByteArray) (pp pq pr dp dq dr : Nat) (t : Tr) : Prop where
  one : PatAt w X p kp sp pp dp t
  two : PatAt w Y q kq sq pq dq t
  three : PatAt w Z r kr sr pr dr t
  xy : ∀ j, Y j ∨ j = q → ¬ (X j ∨ j = p)
  xz : ∀ j, Z j ∨ j = r → ¬ (X j ∨ j = p)
  yz : ∀ j, Z j ∨ j = r → ¬ (Y j ∨ j = q)
section
variable {w w' : World} {X Y Z : Nat → Prop} {p q r : Nat} {kp kq kr : Int} {sp sq sr : ByteArray} {pp pq pr dp dq dr : Nat} {t : Tr}
theorem Three.p1 (h : Three w X Y Z p q r kp kq kr sp sq sr pp pq pr dp dq dr t) (h1 : PatAt w' X p kp sp pp dp t) (hk : Kept (fun j => j = pp) w w') : Three w' X Y Z p q r kp kq kr sp sq sr pp pq pr dp dq dr t :=
  ⟨h1, h.two.kept hk fun j hj e => h.xy j hj (.inl (e ▸ h.one.in_)), h.three.kept hk fun j hj e => h.xz j hj (.inl (e ▸ h.one.in_)), h.xy, h.xz, h.yz⟩
theorem Three.p2 (h : Three w X Y Z p q r kp kq kr sp sq sr pp pq pr dp dq dr t) (h1 : PatAt w' Y q kq sq pq dq t) (hk : Kept (fun j => j = pq) w w') : Three w' X Y Z p q r kp kq kr sp sq sr pp pq pr dp dq dr t :=
  ⟨h.one.kept hk fun j hj e => h.xy pq (.inl h.two.in_) (e ▸ hj), h1, h.three.kept hk fun j hj e => h.yz j hj (.inl (e ▸ h.two.in_)), h.xy, h.xz, h.yz⟩
end
theorem spec_cases {c : UInt8} (h : specX c = true) : c = 124 ∨ c = 40 ∨ c = 41 ∨ c = 42 ∨ c = 43 ∨ c = 63 ∨ c = 46 ∨ c = 91 ∨ c = 92 := by
  simpa [specX, or_assoc] using h
theorem spec_not {c : UInt8} (h : specX c = false) (x : UInt8) (hx : specX x = true) : ((c.toNat : Int) == (x.toNat : Int)) = false := by
  rw [beq_eq_false_iff_ne]
  intro e
  have : c = x := UInt8.toNat_inj.mp (by omega)
  rw [this, hx] at h; cases h
theorem cat2 (q : ByteArray) (a b : UInt8) : (q ++ ⟨#[a]⟩ ++ ⟨#[b]⟩ : ByteArray).data.toList = q.data.toList ++ [a, b] := by simp
theorem cat1 (q : ByteArray) (b : UInt8) : (q ++ ⟨#[b]⟩ : ByteArray).data.toList = q.data.toList ++ [b] := by simp
set_option maxHeartbeats 4000000 in
set_option maxRecDepth 100000 in
theorem patExact_walk {w : World} (s : ByteArray) {A : Option Addr} {n c : Nat} {bs : List UInt8} (hs0 : s.size ≤ maxLen) (hb : BytesAt w A n bs) (hc : n ≤ c) (hn : n ≤ 140737488355328) :
    Calls Try.prog 6 #[.string s, .slice A n c] w (AlivePost w) := by
  have HBS := Lib.hid hb
  unfold maxLen at hs0
  clear hb
  rcases Nat.lt_or_ge 50 s.size with h60 | h60
  · have h60' : (50 : Int) < (s.size : Int) := by omega
    go_enter Try.func6, Try.ntmps6
    go_wp2_with fail
    refine (palive_any _).mono ?_
    rintro e w1 ⟨rfl, b1⟩
    go_wp2
    go_ret
    exact ⟨rfl, b1⟩
  have h60' : decide ((50 : Int) < (s.size : Int)) = false := by rw [decide_eq_false_iff_not]; omega
  have h60n : decide (50 < s.size) = false := by rw [decide_eq_false_iff_not]; omega
  rcases Nat.lt_or_ge 300 n with h200 | h200
  · have h200' : (300 : Int) < (n : Int) := by omega
    go_enter Try.func6, Try.ntmps6
    go_wp2_with fail
    refine (palive_any _).mono ?_
    rintro e w1 ⟨rfl, b1⟩
    go_wp2
    go_ret
    exact ⟨rfl, b1⟩
  have h200' : decide ((300 : Int) < (n : Int)) = false := by rw [decide_eq_false_iff_not]; omega
  have h200n : decide (300 < n) = false := by rw [decide_eq_false_iff_not]; omega
  go_enter Try.func6, Try.ntmps6
  go_wp2_with fail
  refine (palive_any _).mono ?_
  rintro e w1 ⟨rfl, b1⟩
  have B1 := Lib.hid b1
  clear b1
  go_wp2_with fail
  go_loopw [5, 6, 7] (fun q g i wr => ∃ (j : Nat) (q' g' : ByteArray), j ≤ s.size ∧ i = .int .i64 (j : Nat) ∧ q = .string q' ∧ g = .string g' ∧ EncG (s.data.toList.take j) q'.data.toList ∧ EncX (s.data.toList.take j) g'.data.toList ∧ (q'.size ≤ 2 * j ∧ g'.size ≤ 2 * j) ∧ Below w1.heap.size w1 wr) (fun _ _ i _ => s.size - (intOf i).toNat)
  case atStart => exact ⟨0, ⟨#[]⟩, ⟨#[]⟩, Nat.zero_le _, rfl, rfl, rfl, .nil, .nil, ⟨Nat.le_refl _, Nat.le_refl _⟩, Below.refl _ _⟩
  case round =>
    obtain ⟨j, q', g', hj, rfl, rfl, rfl, hq, hg, hz, hb⟩ := hrel
    have hlen : s.data.toList.length = s.size := rfl
    by_cases hlt : j < s.size
    · have hlt' : (j : Int) < (s.size : Int) := by omega
      have hj0 : (0 : Int) ≤ (j : Int) := by omega
      obtain ⟨ch, hch⟩ : ∃ ch : UInt8, ch = s[j] := ⟨_, rfl⟩
      have htk : s.data.toList.take (j + 1) = s.data.toList.take j ++ [ch] := by rw [List.take_succ_eq_append_getElem (by omega), hch]; rfl
      have HTK := Lib.hid htk
      have HQ := Lib.hid (hq.snoc ch)
      have HG := Lib.hid hg
      have HB := Lib.hid hb
      have hcv : (convert 38 9 (.slice (some ⟨wr.heap.size, 0, none⟩) 1 1)).run Try.prog (wr.alloc (.cells #[.int .u8 (ch.toNat : Nat)] 5)) = .ok (.string ⟨#[ch]⟩) (wr.alloc (.cells #[.int .u8 (ch.toNat : Nat)] 5)) := conv_str (bytes_new wr [ch] (0, 0)) 1
      have HB2 := Lib.hid (hb.alloc hb.size (.cells #[.int .u8 (ch.toNat : Nat)] 5))
      have hno1 : ¬ 9223372036854775807 < q'.size + 1 := by omega
      have hno2 : ¬ 9223372036854775807 < q'.size + 1 + 1 := by omega
      have hno3 : ¬ 9223372036854775807 < g'.size + 1 := by omega
      have hno4 : ¬ 9223372036854775807 < g'.size + 1 + 1 := by omega
      have hz1 := hz.1
      have hz2 := hz.2
      have hsj : s[j] = ch := hch.symm
      clear hq hg hb htk hz hch
      rcases hsp : specX ch with _ | _
      · have e1 := spec_not hsp 124 rfl; have e2 := spec_not hsp 40 rfl; have e3 := spec_not hsp 41 rfl; have e4 := spec_not hsp 42 rfl; have e5 := spec_not hsp 43 rfl
        have e6 := spec_not hsp 63 rfl; have e7 := spec_not hsp 46 rfl; have e8 := spec_not hsp 91 rfl; have e9 := spec_not hsp 92 rfl
        have HG2 := Lib.hid (HG.out.snoc1 hsp)
        clear hsp
        simp only [show ((124 : UInt8).toNat : Int) = 124 from rfl, show ((40 : UInt8).toNat : Int) = 40 from rfl, show ((41 : UInt8).toNat : Int) = 41 from rfl, show ((42 : UInt8).toNat : Int) = 42 from rfl, show ((43 : UInt8).toNat : Int) = 43 from rfl, show ((63 : UInt8).toNat : Int) = 63 from rfl, show ((46 : UInt8).toNat : Int) = 46 from rfl, show ((91 : UInt8).toNat : Int) = 91 from rfl, show ((92 : UInt8).toNat : Int) = 92 from rfl] at e1 e2 e3 e4 e5 e6 e7 e8 e9
        go_wp2_with fail
        go_roundw
        case rel => exact ⟨j + 1, _, _, by omega, by go_num, rfl, rfl, by rw [HTK.out, cat2]; exact HQ.out, by rw [HTK.out, cat1]; exact HG2.out, ⟨by simp only [ByteArray.size_append]; show q'.size + 1 + 1 ≤ _; omega, by simp only [ByteArray.size_append]; show g'.size + 1 ≤ _; omega⟩, HB2.out⟩
        case measure => simp [intOf]; omega
      · have HG2 := Lib.hid (HG.out.snoc2 hsp)
        have hcs := spec_cases hsp
        clear hsp
        rcases hcs with hx | hx | hx | hx | hx | hx | hx | hx | hx
        · have e0 : ((ch.toNat : Int) == 124) = true := by rw [hx]; rfl
          clear hx
          go_wp2_with fail
          go_roundw
          case rel => exact ⟨j + 1, _, _, by omega, by go_num, rfl, rfl, by rw [HTK.out, cat2]; exact HQ.out, by rw [HTK.out, cat2]; exact HG2.out, ⟨by simp only [ByteArray.size_append]; show q'.size + 1 + 1 ≤ _; omega, by simp only [ByteArray.size_append]; show g'.size + 1 + 1 ≤ _; omega⟩, HB2.out⟩
          case measure => simp [intOf]; omega
        · have e0 : ((ch.toNat : Int) == 124) = false := by rw [hx]; rfl
          have e1 : ((ch.toNat : Int) == 40) = true := by rw [hx]; rfl
          clear hx
          go_wp2_with fail
          go_roundw
          case rel => exact ⟨j + 1, _, _, by omega, by go_num, rfl, rfl, by rw [HTK.out, cat2]; exact HQ.out, by rw [HTK.out, cat2]; exact HG2.out, ⟨by simp only [ByteArray.size_append]; show q'.size + 1 + 1 ≤ _; omega, by simp only [ByteArray.size_append]; show g'.size + 1 + 1 ≤ _; omega⟩, HB2.out⟩
          case measure => simp [intOf]; omega
        · have e0 : ((ch.toNat : Int) == 124) = false := by rw [hx]; rfl
          have e1 : ((ch.toNat : Int) == 40) = false := by rw [hx]; rfl
          have e2 : ((ch.toNat : Int) == 41) = true := by rw [hx]; rfl
          clear hx
          go_wp2_with fail
          go_roundw
          case rel => exact ⟨j + 1, _, _, by omega, by go_num, rfl, rfl, by rw [HTK.out, cat2]; exact HQ.out, by rw [HTK.out, cat2]; exact HG2.out, ⟨by simp only [ByteArray.size_append]; show q'.size + 1 + 1 ≤ _; omega, by simp only [ByteArray.size_append]; show g'.size + 1 + 1 ≤ _; omega⟩, HB2.out⟩
          case measure => simp [intOf]; omega
        · have e0 : ((ch.toNat : Int) == 124) = false := by rw [hx]; rfl
          have e1 : ((ch.toNat : Int) == 40) = false := by rw [hx]; rfl
          have e2 : ((ch.toNat : Int) == 41) = false := by rw [hx]; rfl
          have e3 : ((ch.toNat : Int) == 42) = true := by rw [hx]; rfl
          clear hx
          go_wp2_with fail
          go_roundw
          case rel => exact ⟨j + 1, _, _, by omega, by go_num, rfl, rfl, by rw [HTK.out, cat2]; exact HQ.out, by rw [HTK.out, cat2]; exact HG2.out, ⟨by simp only [ByteArray.size_append]; show q'.size + 1 + 1 ≤ _; omega, by simp only [ByteArray.size_append]; show g'.size + 1 + 1 ≤ _; omega⟩, HB2.out⟩
          case measure => simp [intOf]; omega
        · have e0 : ((ch.toNat : Int) == 124) = false := by rw [hx]; rfl
          have e1 : ((ch.toNat : Int) == 40) = false := by rw [hx]; rfl
          have e2 : ((ch.toNat : Int) == 41) = false := by rw [hx]; rfl
          have e3 : ((ch.toNat : Int) == 42) = false := by rw [hx]; rfl
          have e4 : ((ch.toNat : Int) == 43) = true := by rw [hx]; rfl
          clear hx
          go_wp2_with fail
          go_roundw
          case rel => exact ⟨j + 1, _, _, by omega, by go_num, rfl, rfl, by rw [HTK.out, cat2]; exact HQ.out, by rw [HTK.out, cat2]; exact HG2.out, ⟨by simp only [ByteArray.size_append]; show q'.size + 1 + 1 ≤ _; omega, by simp only [ByteArray.size_append]; show g'.size + 1 + 1 ≤ _; omega⟩, HB2.out⟩
          case measure => simp [intOf]; omega
        · have e0 : ((ch.toNat : Int) == 124) = false := by rw [hx]; rfl
          have e1 : ((ch.toNat : Int) == 40) = false := by rw [hx]; rfl
          have e2 : ((ch.toNat : Int) == 41) = false := by rw [hx]; rfl
          have e3 : ((ch.toNat : Int) == 42) = false := by rw [hx]; rfl
          have e4 : ((ch.toNat : Int) == 43) = false := by rw [hx]; rfl
          have e5 : ((ch.toNat : Int) == 63) = true := by rw [hx]; rfl
          clear hx
          go_wp2_with fail
          go_roundw
          case rel => exact ⟨j + 1, _, _, by omega, by go_num, rfl, rfl, by rw [HTK.out, cat2]; exact HQ.out, by rw [HTK.out, cat2]; exact HG2.out, ⟨by simp only [ByteArray.size_append]; show q'.size + 1 + 1 ≤ _; omega, by simp only [ByteArray.size_append]; show g'.size + 1 + 1 ≤ _; omega⟩, HB2.out⟩
          case measure => simp [intOf]; omega
        · have e0 : ((ch.toNat : Int) == 124) = false := by rw [hx]; rfl
          have e1 : ((ch.toNat : Int) == 40) = false := by rw [hx]; rfl
          have e2 : ((ch.toNat : Int) == 41) = false := by rw [hx]; rfl
          have e3 : ((ch.toNat : Int) == 42) = false := by rw [hx]; rfl
          have e4 : ((ch.toNat : Int) == 43) = false := by rw [hx]; rfl
          have e5 : ((ch.toNat : Int) == 63) = false := by rw [hx]; rfl
          have e6 : ((ch.toNat : Int) == 46) = true := by rw [hx]; rfl
          clear hx
          go_wp2_with fail
          go_roundw
          case rel => exact ⟨j + 1, _, _, by omega, by go_num, rfl, rfl, by rw [HTK.out, cat2]; exact HQ.out, by rw [HTK.out, cat2]; exact HG2.out, ⟨by simp only [ByteArray.size_append]; show q'.size + 1 + 1 ≤ _; omega, by simp only [ByteArray.size_append]; show g'.size + 1 + 1 ≤ _; omega⟩, HB2.out⟩
          case measure => simp [intOf]; omega
        · have e0 : ((ch.toNat : Int) == 124) = false := by rw [hx]; rfl
          have e1 : ((ch.toNat : Int) == 40) = false := by rw [hx]; rfl
          have e2 : ((ch.toNat : Int) == 41) = false := by rw [hx]; rfl
          have e3 : ((ch.toNat : Int) == 42) = false := by rw [hx]; rfl
          have e4 : ((ch.toNat : Int) == 43) = false := by rw [hx]; rfl
          have e5 : ((ch.toNat : Int) == 63) = false := by rw [hx]; rfl
          have e6 : ((ch.toNat : Int) == 46) = false := by rw [hx]; rfl
          have e7 : ((ch.toNat : Int) == 91) = true := by rw [hx]; rfl
          clear hx
          go_wp2_with fail
          go_roundw
          case rel => exact ⟨j + 1, _, _, by omega, by go_num, rfl, rfl, by rw [HTK.out, cat2]; exact HQ.out, by rw [HTK.out, cat2]; exact HG2.out, ⟨by simp only [ByteArray.size_append]; show q'.size + 1 + 1 ≤ _; omega, by simp only [ByteArray.size_append]; show g'.size + 1 + 1 ≤ _; omega⟩, HB2.out⟩
          case measure => simp [intOf]; omega
        · have e0 : ((ch.toNat : Int) == 124) = false := by rw [hx]; rfl
          have e1 : ((ch.toNat : Int) == 40) = false := by rw [hx]; rfl
          have e2 : ((ch.toNat : Int) == 41) = false := by rw [hx]; rfl
          have e3 : ((ch.toNat : Int) == 42) = false := by rw [hx]; rfl
          have e4 : ((ch.toNat : Int) == 43) = false := by rw [hx]; rfl
          have e5 : ((ch.toNat : Int) == 63) = false := by rw [hx]; rfl
          have e6 : ((ch.toNat : Int) == 46) = false := by rw [hx]; rfl
          have e7 : ((ch.toNat : Int) == 91) = false := by rw [hx]; rfl
          have e8 : ((ch.toNat : Int) == 92) = true := by rw [hx]; rfl
          clear hx
          go_wp2_with fail
          go_roundw
          case rel => exact ⟨j + 1, _, _, by omega, by go_num, rfl, rfl, by rw [HTK.out, cat2]; exact HQ.out, by rw [HTK.out, cat2]; exact HG2.out, ⟨by simp only [ByteArray.size_append]; show q'.size + 1 + 1 ≤ _; omega, by simp only [ByteArray.size_append]; show g'.size + 1 + 1 ≤ _; omega⟩, HB2.out⟩
          case measure => simp [intOf]; omega
    · have hlt' : ¬ (j : Int) < (s.size : Int) := by omega
      rw [List.take_of_length_le (by omega)] at hq hg
      have B2 := Lib.hid (B1.out.trans (hb.mono B1.out.size))
      have H2 := Lib.hid ((HBS.out.below B1.out).below hb)
      have K1 := fun W => Lib.hid (goodC_of (kind := 1) (s := s) (l := s.data.toList) (patP1 (by omega)) W)
      have K2 := fun W => Lib.hid (goodC_of (kind := 2) (s := q') (l := s.data.toList) (patP2 hq (by have : q'.data.toList.length = q'.size := rfl; omega)) W)
      have K3 := fun W => Lib.hid (goodC_of (kind := 3) (s := g') (l := s.data.toList) (patP3 hg (by have : g'.data.toList.length = g'.size := rfl; omega)) W)
      obtain ⟨tx, htx⟩ : ∃ tx, tx = exactT s.data.toList := ⟨_, rfl⟩
      clear hq hg hz hb
      go_wp2_with fail
      ((with_reducible refine (K1 _).out.mono ?_))
      rintro e w3 ⟨p, X, pp, dp, rfl, hP, hx, hb3⟩
      have P3 := Lib.hid hP
      have X3 := Lib.hid hx
      have H3 := Lib.hid (H2.out.below hb3)
      have B3 := Lib.hid (B2.out.trans (hb3.mono B2.out.size))
      clear hP hx hb3
      go_wp2_with fail
      ((with_reducible refine (K2 _).out.mono ?_))
      rintro e w4 ⟨q, Y, pq, dq, rfl, hP, hx, hb4⟩
      have P4 := Lib.hid (P3.out.below hb4)
      have Q4 := Lib.hid hP
      have Y4 := Lib.hid hx
      have H4 := Lib.hid (H3.out.below hb4)
      have B4 := Lib.hid (B3.out.trans (hb4.mono B3.out.size))
      have S4 := Lib.hid hb4.size
      clear hP hx hb4
      go_wp2_with fail
      ((with_reducible refine (K3 _).out.mono ?_))
      rintro e w5 ⟨r, Z, pr, dr, rfl, hP, hx, hb5⟩
      have hxp : ∀ j, X j ∨ j = p → j < w3.heap.size := fun j hj => by
        rcases hj with hj | rfl
        · exact P3.out.old hj
        · exact P3.out.top.lt
      have hyp : ∀ j, Y j ∨ j = q → j < w4.heap.size := fun j hj => by
        rcases hj with hj | rfl
        · exact Q4.out.old hj
        · exact Q4.out.top.lt
      have T5 := Lib.hid (Three.mk (P4.out.below hb5) (Q4.out.below hb5) hP (fun j hj hk => by have := Y4.out j hj; have := hxp j hk; omega) (fun j hj hk => by have := hx j hj; have := hxp j hk; have := S4.out; omega) (fun j hj hk => by have := hx j hj; have := hyp j hk; omega))
      have H5 := Lib.hid (H4.out.below hb5)
      have B5 := Lib.hid (B4.out.trans (hb5.mono B4.out.size))
      have OX := Lib.hid (fun (hm : 0 < n) b o (e : A = some ⟨b, o, none⟩) => show ¬ (X b ∨ Y b ∨ Z b) from fun h => by
        obtain ⟨b', o', e', hl, _⟩ := HBS.out.2 hm
        rw [e] at e'
        have e' := Option.some.inj e'
        injection e' with e1 _ _
        subst e1
        have q1 := B2.out.size; have q2 := B3.out.size; have q3 := B4.out.size
        rcases h with h | h | h
        · have := X3.out b (.inl h); omega
        · have := Y4.out b (.inl h); omega
        · have := hx b (.inl h); omega)
      have OP := Lib.hid (show (∀ j, j = pp → w.heap.size ≤ j) ∧ (∀ j, j = pq → w.heap.size ≤ j) ∧ (∀ j, j = pr → w.heap.size ≤ j) from by
        have q1 := B2.out.size; have q2 := B3.out.size; have q3 := B4.out.size
        refine ⟨fun j e => ?_, fun j e => ?_, fun j e => ?_⟩
        · have := X3.out pp (.inl P3.out.in_); omega
        · have := Y4.out pq (.inl Q4.out.in_); omega
        · have := hx pr (.inl hP.in_); omega)
      clear hP hx hb5 hxp hyp
      go_wp2_with fail
      refine (pfind_any T5.out.one H5.out (fun hm b o e hb => OX.out hm b o e (.inl hb)) (by omega)).mono ?_
      rintro e w6 ⟨a1, z1, k1, rfl, hf1, hP1, hk1⟩
      have F1 := Lib.hid hf1
      have T6 := Lib.hid (T5.out.p1 hP1 hk1)
      have H6 := Lib.hid (BytesAt.keep (w' := w6) H5.out (fun hm b o e hl => hk1.block b hl (fun hb => OX.out hm b o e (.inl (hb ▸ T5.out.one.in_)))) hk1.size)
      have B6 := Lib.hid (B5.out.trans (hk1.below B5.out.size OP.out.1))
      clear hf1 hP1 hk1
      go_wp2_with fail
      refine (pfind_any T6.out.two H6.out (fun hm b o e hb => OX.out hm b o e (.inr (.inl hb))) (by omega)).mono ?_
      rintro e w7 ⟨a2, z2, k2, rfl, hf2, hP2, hk2⟩
      obtain ⟨rfl, rfl, rfl⟩ := same_find T5.out.one.good T5.out.two.good F1.out hf2
      have T7 := Lib.hid (T6.out.p2 hP2 hk2)
      have H7 := Lib.hid (BytesAt.keep (w' := w7) H6.out (fun hm b o e hl => hk2.block b hl (fun hb => OX.out hm b o e (.inr (.inl (hb ▸ T5.out.two.in_))))) hk2.size)
      have B7 := Lib.hid (B6.out.trans (hk2.below B6.out.size OP.out.2.1))
      clear hf2 hP2 hk2
      go_wp2_with fail
      refine (pfind_any T7.out.three H7.out (fun hm b o e hb => OX.out hm b o e (.inr (.inr hb))) (by omega)).mono ?_
      rintro e w8 ⟨a3, z3, k3, rfl, hf3, hP3, hk3⟩
      obtain ⟨rfl, rfl, rfl⟩ := same_find T5.out.one.good T5.out.three.good F1.out hf3
      have H8 := Lib.hid (BytesAt.keep (w' := w8) H7.out (fun hm b o e hl => hk3.block b hl (fun hb => OX.out hm b o e (.inr (.inr (hb ▸ T5.out.three.in_))))) hk3.size)
      have B8 := Lib.hid (B7.out.trans (hk3.below B7.out.size OP.out.2.2))
      have hex := exact_find T5.out.one.good F1.out
      clear hf3 hP3 hk3
      rcases k1 with _ | _
      · have h0 : 0 < s.size := hex.1 rfl
        have h0' : (0 : Int) < (s.size : Int) := by omega
        clear hex
        go_wp2
        go_ret
        exact ⟨ret_bool (by simp <;> omega), B8.out⟩
      · obtain ⟨f, u, rfl, rfl, hfu, hul, hpc⟩ := hex.2 rfl
        have hun : u ≤ n := by rw [HBS.out.1] at hul; exact hul
        have huc : u ≤ c := by omega
        obtain ⟨Q, hQ⟩ : ∃ Q, Q = behind A c f := ⟨_, rfl⟩
        have hQ2 : (if c = f then A else Option.map (fun x => x.add f) A) = Q := hQ.symm
        have hpb : BytesAt w8 Q (u - f) s.data.toList := by
          rw [hQ, ← hpc]
          exact (H8.out.behind_ (c := c) (k := f) (by omega) hc).cut (k := u - f) (by omega)
        have hcv := conv_str hpb (c - f)
        have hst : (⟨s.data.toList.toArray⟩ : ByteArray) = s := by cases s; simp
        rw [hst] at hcv
        clear hex hQ hpb hpc hst hul
        go_wp2
        go_ret
        exact ⟨ret_bool (by simp), B8.out⟩
end Go.Proofs.Ytponepcgokfiiaa
