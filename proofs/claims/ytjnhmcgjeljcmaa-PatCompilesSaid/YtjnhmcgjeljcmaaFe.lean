/- Plain facts: what a tree matches hangs on the piece alone; what that means for a longer text, and for the piece. No program. The law's alive. -/
import Derived.Test.YtjnhmcgjeljcmaaFd
namespace Go.Proofs.Ytjnhmcgjeljcmaa

theorem itR_sh {R R' : Nat → Nat → Prop} {o p n a b : Nat} (hR : ∀ i j, R i j → i ≤ n → i ≤ j ∧ j ≤ n) (hb : b + o ≤ n) (hRR : ∀ i j, a ≤ i → i ≤ j → j ≤ b → R (i + o) (j + o) → R' (i + p) (j + p)) :
    ∀ c i j, a ≤ i → j ≤ b → itR R c (i + o) (j + o) → i + o ≤ n → itR R' c (i + p) (j + p)
  | 0, i, j, _, _, h, _ => by have h : i + o = j + o := h; show i + p = j + p; omega
  | c + 1, i, j, ha, hj, ⟨m, h1, h2⟩, hi => by
    have k1 := hR _ _ h1 hi
    have k2 := itR_le hR c m (j + o) h2 k1.2
    obtain ⟨m', rfl⟩ : ∃ m', m = m' + o := ⟨m - o, by omega⟩
    exact ⟨m' + p, hRR i m' ha (by omega) (by omega) h1, itR_sh hR hb hRR c m' j (by omega) hj h2 k1.2⟩
theorem chR_sh {R R' : Tr → Nat → Nat → Prop} {o p n a b : Nat} (hb : b + o ≤ n) : ∀ (ts : List Tr), (∀ t, t ∈ ts → ∀ i j, R t i j → i ≤ n → i ≤ j ∧ j ≤ n) → (∀ t, t ∈ ts → ∀ i j, a ≤ i → i ≤ j → j ≤ b → R t (i + o) (j + o) → R' t (i + p) (j + p)) →
    ∀ i j, a ≤ i → j ≤ b → chR R ts (i + o) (j + o) → i + o ≤ n → chR R' ts (i + p) (j + p)
  | [], _, _, i, j, _, _, h, _ => by have h : i + o = j + o := h; show i + p = j + p; omega
  | t :: ts, hR, hRR, i, j, ha, hj, ⟨m, h1, h2⟩, hi => by
    have k1 := hR t (List.mem_cons_self ..) _ _ h1 hi
    have k2 := chR_le ts (fun t ht => hR t (List.mem_cons_of_mem _ ht)) m (j + o) h2 k1.2
    obtain ⟨m', rfl⟩ : ∃ m', m = m' + o := ⟨m - o, by omega⟩
    exact ⟨m' + p, hRR t (List.mem_cons_self ..) i m' ha (by omega) (by omega) h1, chR_sh hb ts (fun t ht => hR t (List.mem_cons_of_mem _ ht)) (fun t ht => hRR t (List.mem_cons_of_mem _ ht)) m' j (by omega) hj h2 k1.2⟩
theorem Mt_sh {s s' : List UInt8} {o p : Nat} : ∀ d t i j, i ≤ j → j + o ≤ s.length → j + p ≤ s'.length → (∀ x, i ≤ x → x < j → s[x + o]? = s'[x + p]?) → Mt s d t (i + o) (j + o) → Mt s' d t (i + p) (j + p)
  | 0, _, _, _, _, _, _, _, h => h.elim
  | d + 1, .mk k rs kids, i, j, hij, hjs, hjs', hS, h => by
    have hle : ∀ t, ∀ i j, Mt s d t i j → i ≤ s.length → i ≤ j ∧ j ≤ s.length := fun t i j h hi => Mt_le d t i j h hi
    have hRR : ∀ t, ∀ a b, i ≤ a → a ≤ b → b ≤ j → Mt s d t (a + o) (b + o) → Mt s' d t (a + p) (b + p) := fun t a b h1 h2 h3 h => Mt_sh d t a b h2 (by omega) (by omega) (fun x hx hy => hS x (by omega) (by omega)) h
    unfold Mt at h ⊢
    by_cases h1 : k = 1
    · rw [if_pos h1] at h ⊢
      obtain ⟨c, hc, e, hin⟩ := setT_iff.1 h
      refine setT_iff.2 ⟨c, ?_, by omega, hin⟩
      rw [← hS i (Nat.le_refl _) (by omega)]; exact hc
    rw [if_neg h1] at h ⊢
    by_cases h2 : k = 2
    · rw [if_pos h2] at h ⊢
      exact chR_sh hjs kids (fun t _ => hle t) (fun t _ => hRR t) i j (Nat.le_refl _) (Nat.le_refl _) h (by omega)
    rw [if_neg h2] at h ⊢
    by_cases h3 : k = 3
    · rw [if_pos h3] at h ⊢
      obtain ⟨t, ht, h⟩ := h
      exact ⟨t, ht, hRR t i j (Nat.le_refl _) hij (Nat.le_refl _) h⟩
    rw [if_neg h3] at h ⊢
    by_cases h4 : k < 4 ∨ 6 < k
    · rw [if_pos h4] at h; exact h.elim
    rw [if_neg h4] at h ⊢
    match kids, h with
    | t :: _, h =>
      simp only at h ⊢
      by_cases h6 : k = 6
      · rw [if_pos h6] at h ⊢
        rcases h with h | h
        · exact .inl (hRR t i j (Nat.le_refl _) hij (Nat.le_refl _) h)
        · exact .inr (by omega)
      rw [if_neg h6] at h ⊢
      by_cases h5 : k = 4
      · rw [if_pos h5] at h ⊢
        obtain ⟨c, h⟩ := h
        exact ⟨c, itR_sh (hle t) hjs (hRR t) c i j (Nat.le_refl _) (Nat.le_refl _) h (by omega)⟩
      · rw [if_neg h5] at h ⊢
        obtain ⟨c, h⟩ := h
        exact ⟨c, itR_sh (hle t) hjs (hRR t) (c + 1) i j (Nat.le_refl _) (Nat.le_refl _) h (by omega)⟩
theorem Mt_more {b more : List UInt8} {d : Nat} {t : Tr} {f u : Nat} (h1 : f ≤ u) (h2 : u ≤ b.length) : Mt b d t f u ↔ Mt (b ++ more) d t f u := by
  have hs : ∀ x, f ≤ x → x < u → b[x + 0]? = (b ++ more)[x + 0]? := fun x _ hx => by rw [Nat.add_zero, List.getElem?_append_left (by omega)]
  exact ⟨fun h => Mt_sh (o := 0) (p := 0) d t f u h1 h2 (by rw [List.length_append]; omega) hs h, fun h => Mt_sh (o := 0) (p := 0) d t f u h1 (by rw [List.length_append]; omega) h2 (fun x a b => (hs x a b).symm) h⟩
theorem Mt_piece {b : List UInt8} {d : Nat} {t : Tr} {f u : Nat} (h1 : f ≤ u) (h2 : u ≤ b.length) (h : Mt b d t f u) : Mt ((b.drop f).take (u - f)) d t 0 (u - f) := by
  have hl : ((b.drop f).take (u - f)).length = u - f := by rw [List.length_take, List.length_drop]; omega
  have := Mt_sh (s := b) (s' := (b.drop f).take (u - f)) (o := f) (p := 0) d t 0 (u - f) (Nat.zero_le _) (by omega) (by omega) (fun x _ hx => by
    rw [Nat.add_zero, List.getElem?_take_of_lt hx, List.getElem?_drop, Nat.add_comm]) (by rw [Nat.zero_add, show u - f + f = u by omega]; exact h)
  simpa using this
/-- What is found in a longer text. -/
theorem find_grows {b more : List UInt8} {d : Nat} {t : Tr} {a z i k : Int} {ok is : Bool} (h : findR b d t a z ok) (h' : findR (b ++ more) d t i k is) :
    (ok = false → is = false ∨ (b.length : Int) < k) ∧ (ok = true → 0 ≤ a ∧ a ≤ z ∧ z ≤ b.length ∧ is = true ∧ i ≤ a ∧ (i < a ∨ z ≤ k)) := by
  refine ⟨fun e => ?_, fun e => ?_⟩
  · rcases h with ⟨_, _, _, hn⟩ | ⟨e', _⟩
    · rcases h' with ⟨e1, _⟩ | ⟨_, f, u, rfl, rfl, hf, hu, hm, _⟩
      · exact .inl e1
      · refine .inr ?_
        rcases Nat.lt_or_ge b.length u with hlt | hge
        · omega
        · have hfu := (Mt_le d t f u hm hf).1
          exact absurd ((Mt_more hfu hge).2 hm) (hn f u (by omega) hge)
    · rw [e'] at e; cases e
  · rcases h with ⟨e', _⟩ | ⟨_, f, u, rfl, rfl, hf, hu, hm, hl, hg⟩
    · rw [e'] at e; cases e
    · have hfu := (Mt_le d t f u hm hf).1
      have hm' : Mt (b ++ more) d t f u := (Mt_more hfu hu).1 hm
      have hL : (b ++ more).length = b.length + more.length := List.length_append
      rcases h' with ⟨_, _, _, hn⟩ | ⟨e1, f', u', rfl, rfl, hf', hu', hm2, hl', hg'⟩
      · exact absurd hm' (hn f u (by omega) (by omega))
      · have hff : f' ≤ f := by
          rcases Nat.lt_or_ge f f' with hlt | hge
          · exact absurd hm' (hg' f hlt u (by omega))
          · exact hge
        refine ⟨by omega, by omega, by omega, e1, by omega, ?_⟩
        rcases Nat.lt_or_ge f' f with hlt | hge
        · exact .inl (by omega)
        · obtain rfl : f' = f := by omega
          refine .inr ?_
          rcases Nat.lt_or_ge u' u with hlt | hge2
          · exact absurd hm' (hl' u hlt (by omega))
          · omega
/-- What is found is found in itself, as a whole. -/
theorem find_piece {b : List UInt8} {d : Nat} {t : Tr} {f u : Nat} {x y : Int} {z : Bool} (h : findR b d t (f : Nat) (u : Nat) true) (h' : findR ((b.drop f).take (u - f)) d t x y z) : z = true ∧ x = 0 ∧ y = (u : Int) - (f : Int) := by
  rcases h with ⟨e, _⟩ | ⟨_, f0, u0, e1, e2, hf, hu, hm, _, _⟩
  · cases e
  · obtain rfl : f = f0 := by omega
    obtain rfl : u = u0 := by omega
    have hfu := (Mt_le d t f u hm hf).1
    have hp := Mt_piece hfu hu hm
    have hl : ((b.drop f).take (u - f)).length = u - f := by rw [List.length_take, List.length_drop]; omega
    rcases h' with ⟨_, _, _, hn⟩ | ⟨e3, g, v, rfl, rfl, hg1, hv, hm2, hl2, hg2⟩
    · exact absurd hp (hn 0 (u - f) (Nat.zero_le _) (by omega))
    · obtain rfl : g = 0 := by
        rcases Nat.eq_zero_or_pos g with h0 | h0
        · exact h0
        · exact absurd hp (hg2 0 h0 (u - f) (by omega))
      refine ⟨e3, rfl, ?_⟩
      rcases Nat.lt_or_ge v (u - f) with hlt | hge
      · exact absurd hp (hl2 (u - f) hlt (by omega))
      · omega
end Go.Proofs.Ytjnhmcgjeljcmaa
namespace Go.Proofs.Ytjnhmcgjeljcmaa
open Go.RowKit Go.Maps

theorem chR_congr {R R' : Tr → Nat → Nat → Prop} : ∀ (ts : List Tr), (∀ t, t ∈ ts → R t = R' t) → chR R ts = chR R' ts
  | [], _ => rfl
  | t :: ts, h => by
    funext i j
    show (∃ m, R t i m ∧ chR R ts m j) = (∃ m, R' t i m ∧ chR R' ts m j)
    rw [h t (List.mem_cons_self ..), chR_congr ts fun u hu => h u (List.mem_cons_of_mem _ hu)]
theorem Mt_step (s : List UInt8) : ∀ (d : Nat) (t : Tr), GoodT d t → Mt s (d + 1) t = Mt s d t
  | 0, _, h => h.elim
  | d + 1, .mk k rs kids, h => by
    have ih : ∀ t, t ∈ kids → Mt s (d + 1) t = Mt s d t := fun t ht => Mt_step s d t (h.2.2.2 t ht)
    unfold Mt
    by_cases h1 : k = 1
    · rw [if_pos h1, if_pos h1]
    rw [if_neg h1, if_neg h1]
    by_cases h2 : k = 2
    · rw [if_pos h2, if_pos h2, chR_congr kids ih]
    rw [if_neg h2, if_neg h2]
    by_cases h3 : k = 3
    · rw [if_pos h3, if_pos h3]
      funext i j
      apply propext
      exact ⟨fun ⟨t, ht, h⟩ => ⟨t, ht, by rw [← ih t ht]; exact h⟩, fun ⟨t, ht, h⟩ => ⟨t, ht, by rw [ih t ht]; exact h⟩⟩
    rw [if_neg h3, if_neg h3]
    by_cases h4 : k < 4 ∨ 6 < k
    · rw [if_pos h4, if_pos h4]
    rw [if_neg h4, if_neg h4]
    match kids, ih with
    | [], _ => rfl
    | t :: r, ih => simp only; rw [ih t (List.mem_cons_self ..)]
theorem Mt_add (s : List UInt8) {d : Nat} {t : Tr} (h : GoodT d t) : ∀ e, Mt s (d + e) t = Mt s d t
  | 0 => rfl
  | e + 1 => (Mt_step s (d + e) t (good_add d t h e).1).trans (Mt_add s h e)
theorem Mt_deep (s : List UInt8) {d d' : Nat} {t : Tr} (h : GoodT d t) (h' : GoodT d' t) : Mt s d t = Mt s d' t := by
  rw [← Mt_add s h d', ← Mt_add s h' d, Nat.add_comm]
theorem findR_deep {s : List UInt8} {d d' : Nat} {t : Tr} {a b : Int} {ok : Bool} (h : GoodT d t) (h' : GoodT d' t) (hf : findR s d t a b ok) : findR s d' t a b ok := by
  unfold findR at hf ⊢
  rw [← Mt_deep s h h']
  exact hf
def AliveC (W : World) (kind : Int) (s : ByteArray) (e : Ending) (W' : World) : Prop :=
  ∃ p X pp d t, e = .returned (.tuple #[.pointer (some ⟨p, 0, none⟩), .int .i64 0, .int .i64 0]) ∧ PatAt W' X p kind s pp d t ∧ findR [120, 97, 98] d t 1 3 true ∧ (∀ j, X j ∨ j = p → W.heap.size ≤ j) ∧ Below W.heap.size W W'
theorem aliveC_of {kind : Int} {s : ByteArray} {t : Tr} {D : Nat} (hp : patP kind s.data.toList = (t, 0, 0)) (hg : GoodT D t) (hf : findR [120, 97, 98] D t 1 3 true) (W : World) : Calls Try.prog 20 #[.int .i64 kind, .string s] W (AliveC W kind s) := by
  refine (pcomp_any kind s W).mono ?_
  rintro e W' (⟨_, p, X, pp, d, rfl, hP, hx, hb⟩ | ⟨h0, _⟩)
  · rw [hp] at hP
    exact ⟨p, X, pp, d, t, rfl, hP, findR_deep hg hP.good hf, hx, hb⟩
  · rw [hp] at h0; exact absurd rfl h0
def tA1 : Tr := .mk 2 [] [setC 97, setC 98]
def tA2 : Tr := .mk 2 [] [setC 97, .mk 4 [] [anyT]]
def tA3 : Tr := .mk 3 [] [.mk 2 [] [setC 98], .mk 2 [] [setC 97, setC 98]]
theorem pA1 : patP 1 [97, 98] = (tA1, 0, 0) := by kernel_rfl
theorem pA2 : patP 2 [97, 42] = (tA2, 0, 0) := by kernel_rfl
theorem pA3 : patP 3 [98, 124, 97, 98] = (tA3, 0, 0) := by kernel_rfl
theorem gA1 : GoodT 4 tA1 := by simp [GoodT, tA1, setC]
theorem gA2 : GoodT 4 tA2 := by simp [GoodT, tA2, setC, anyT]
theorem gA3 : GoodT 4 tA3 := by simp [GoodT, tA3, setC]
theorem fA1 : findR [120, 97, 98] 4 tA1 1 3 true := findR_tab (f := 1) (u := 3) (by decide) (by decide) (by decide +kernel) (by decide +kernel) (by decide +kernel)
theorem fA2 : findR [120, 97, 98] 4 tA2 1 3 true := findR_tab (f := 1) (u := 3) (by decide) (by decide) (by decide +kernel) (by decide +kernel) (by decide +kernel)
theorem fA3 : findR [120, 97, 98] 4 tA3 1 3 true := findR_tab (f := 1) (u := 3) (by decide) (by decide) (by decide +kernel) (by decide +kernel) (by decide +kernel)
def txtA (j : Nat) : ByteArray := match j with | 0 => ⟨#[]⟩ | 1 => ⟨#[97, 98]⟩ | 2 => ⟨#[97, 42]⟩ | _ => ⟨#[98, 124, 97, 98]⟩
def AlivePost (w : World) (e : Ending) (w' : World) : Prop := e = .returned (.bool true) ∧ Below w.heap.size w w'
set_option maxHeartbeats 4000000 in
set_option maxRecDepth 100000 in
theorem palive_any (w : World) : Calls Try.prog 19 #[] w (AlivePost w) := by
  have hcv := conv_const
  have A1 := fun W => Lib.hid (aliveC_of (kind := 1) (s := ⟨#[97, 98]⟩) pA1 gA1 fA1 W)
  have A2 := fun W => Lib.hid (aliveC_of (kind := 2) (s := ⟨#[97, 42]⟩) pA2 gA2 fA2 W)
  have A3 := fun W => Lib.hid (aliveC_of (kind := 3) (s := ⟨#[98, 124, 97, 98]⟩) pA3 gA3 fA3 W)
  have hbk := Blk.new w 9 #[.string ⟨#[]⟩, .string ⟨#[97, 98]⟩, .string ⟨#[97, 42]⟩, .string ⟨#[98, 124, 97, 98]⟩]
  have hb0 := (Below.refl w.heap.size w).alloc (Nat.le_refl _) (.cells #[.string ⟨#[]⟩, .string ⟨#[97, 98]⟩, .string ⟨#[97, 42]⟩, .string ⟨#[98, 124, 97, 98]⟩] 9)
  have HBK := Lib.hid hbk
  have HB0 := Lib.hid hb0
  have hs0 : w.heap.size < (w.alloc (.cells #[.string ⟨#[]⟩, .string ⟨#[97, 98]⟩, .string ⟨#[97, 42]⟩, .string ⟨#[98, 124, 97, 98]⟩] 9)).heap.size := by simp
  clear hbk hb0
  go_enter Try.func19, Try.ntmps19
  go_wp2_with fail
  go_loopw [11] (fun i wr => ∃ j : Nat, j ≤ 4 ∧ i = .int .i64 (j : Nat) ∧ Below (w.alloc (.cells #[.string ⟨#[]⟩, .string ⟨#[97, 98]⟩, .string ⟨#[97, 42]⟩, .string ⟨#[98, 124, 97, 98]⟩] 9)).heap.size (w.alloc (.cells #[.string ⟨#[]⟩, .string ⟨#[97, 98]⟩, .string ⟨#[97, 42]⟩, .string ⟨#[98, 124, 97, 98]⟩] 9)) wr) (fun i _ => 4 - (intOf i).toNat)
  case atStart => exact ⟨0, Nat.zero_le _, rfl, Below.refl _ _⟩
  case round =>
    obtain ⟨j, hj, rfl, hb⟩ := hrel
    have hbk := HBK.out.below hb hs0
    have q0 := hbk.cell 0; have q1 := hbk.cell 1; have q2 := hbk.cell 2; have q3 := hbk.cell 3
    have HB := Lib.hid hb
    clear hb hbk
    rcases (by omega : j = 0 ∨ j = 1 ∨ j = 2 ∨ j = 3 ∨ j = 4) with rfl | rfl | rfl | rfl | rfl
    · go_wp2
      go_roundw
      case rel => exact ⟨1, by omega, rfl, HB.out⟩
      case measure => simp [intOf]
    rotate_right
    · go_wp2
      go_ret
      exact ⟨rfl, HB0.out.trans (HB.out.mono (Nat.le_of_lt hs0))⟩
    all_goals
      go_wp2_with fail
      first
        | ((with_reducible refine (A1 _).out.mono ?_))
        | ((with_reducible refine (A2 _).out.mono ?_))
        | ((with_reducible refine (A3 _).out.mono ?_))
      rintro e w2 ⟨p, X, pp, d, t, rfl, hP, hf, hx, hb2⟩
      have HF := Lib.hid hf
      have a3 := (Below.refl w2.heap.size w2).alloc (Nat.le_refl _) (.cells #[.int .u8 120, .int .u8 97, .int .u8 98] 5 (3, 4))
      have HP := Lib.hid (hP.below a3)
      have HX := Lib.hid hx
      have HB2 := Lib.hid ((HB.out.trans (hb2.mono HB.out.size)).trans (a3.mono (Nat.le_trans HB.out.size hb2.size)))
      have HXL := Lib.hid (fun j hj => show j < w2.heap.size from by obtain ⟨st, hm⟩ := hP.mach; exact hm.old (show X j from hj))
      have hpl := hP.top.lt
      have HS2 := Lib.hid hb2.size
      clear hP hf hx hb2 a3
      go_wp2_with fail
      refine (pfind_any HP.out (bytes_new w2 [120, 97, 98] (3, 4)) (fun _ b o e hb => by
        have e1 := Option.some.inj e
        injection e1 with e1 _ _
        subst e1
        exact Nat.lt_irrefl _ (HXL.out _ hb)) (by decide)).mono ?_
      rintro e w3 ⟨a, b, ok, rfl, hf3, hP3, hk3⟩
      obtain ⟨rfl, rfl, rfl⟩ := findR_one hf3 HF.out
      have HP3 := Lib.hid hP3
      have HB3 := Lib.hid (HB2.out.trans (hk3.below HB2.out.size (fun j hj => by
        subst hj
        exact Nat.le_trans HB.out.size (HX.out _ (.inl HP.out.in_)))))
      clear hf3 hP3 hk3
      go_wp2_with fail
      refine (pkind_any HP3.out).mono ?_
      rintro e w4 ⟨rfl, rfl⟩
      go_wp2_with fail
      refine (ptext_any HP3.out).mono ?_
      rintro e w4 ⟨rfl, rfl⟩
      go_wp2
      go_roundw
      case rel => first | exact ⟨2, by omega, rfl, HB3.out⟩ | exact ⟨3, by omega, rfl, HB3.out⟩ | exact ⟨4, by omega, rfl, HB3.out⟩
      case measure => simp [intOf]
end Go.Proofs.Ytjnhmcgjeljcmaa
