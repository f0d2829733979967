/- Plain facts: what a tree matches hangs on the piece alone; what that means for a longer text, and for the piece. No program. The law's alive. Bytes copied, and put together, in new memory. PatGrows' walk. -/
import Derived.Test.YtponepcgokfiiaaOu
import Derived.Test.YtponepcgokfiiaaFd
import Derived.Test.YtponepcgokfiiaaPp
import Derived.Deep.MidRow
import Derived.IntWalk
namespace Go.Proofs.Ytponepcgokfiiaa

theorem itR_sh {R R' : Nat → Nat → Prop} {o p n a b : Nat} (hR : ∀ i j, R i j → i ≤ n → i ≤ j ∧ j ≤ n) (hb : b + o ≤ n) (hRR : ∀ i j, a ≤ i → i ≤ j → j ≤ b → R (i + o) (j + o) → R' (i + p) (j + p)) :
    ∀ c i j, a ≤ i → j ≤ b → itR R c (i + o) (j + o) → i + o ≤ n → itR R' c (i + p) (j + p)
  | 0, i, j, _, _, h, _ => by have h : i + o = j + o := h; show i + p = j + p; omega
  | c + 1, i, j, ha, hj, ⟨m, h1, h2⟩, hi => by
    have k1 := hR _ _ h1 hi
    have k2 := itR_le hR c m (j + o) h2 k1.2
    obtain ⟨m', rfl⟩ : ∃ m', m = m' + o := ⟨m - o, by omega⟩
    exact ⟨m' + p, hRR i m' ha (by omega) (by omega) h1, itR_sh hR hb hRR c m' j (by omega) hj h2 k1.2⟩
theorem chR_sh {R R' : Tr → Nat → Nat → Prop} {o p n a b : Nat} (hb : b + o ≤ n) : ∀ (ts : List Tr), (∀ t, t ∈ ts → ∀ i j, R t i j → i ≤ n → i ≤ j ∧ j ≤ n) → (∀ t, t ∈ ts → ∀ i j, a ≤ i → i ≤ j → j ≤ b → R t (i + o) (j + o) → R' t (i + p) (j + p)) →
    ∀ i j, a ≤ i → j ≤ b → chR R ts (i + o) (j + o) → i + o ≤ n → chR R' ts (i + p) (j + p)
  | [], _, _, i, j, _, _, h, _ => by have h : i + o = j + o := h; show i + p = j + p; omega
  | t :: ts, hR, hRR, i, j, ha, hj, ⟨m, h1, h2⟩, hi => by
    have k1 := hR t (List.mem_cons_self ..) _ _ h1 hi
    have k2 := chR_le ts (fun t ht => hR t (List.mem_cons_of_mem _ ht)) m (j + o) h2 k1.2
    obtain ⟨m', rfl⟩ : ∃ m', m = m' + o := ⟨m - o, by omega⟩
    exact ⟨m' + p, hRR t (List.mem_cons_self ..) i m' ha (by omega) (by omega) h1, chR_sh hb ts (fun t ht => hR t (List.mem_cons_of_mem _ ht)) (fun t ht => hRR t (List.mem_cons_of_mem _ ht)) m' j (by omega) hj h2 k1.2⟩
theorem Mt_sh {s s' : List UInt8} {o p : Nat} : ∀ d t i j, i ≤ j → j + o ≤ s.length → j + p ≤ s'.length → (∀ x, i ≤ x → x < j → s[x + o]? = s'[x + p]?) → Mt s d t (i + o) (j + o) → Mt s' d t (i + p) (j + p)
  | 0, _, _, _, _, _, _, _, h => h.elim
  | d + 1, .mk k rs kids, i, j, hij, hjs, hjs', hS, h => by
    have hle : ∀ t, ∀ i j, Mt s d t i j → i ≤ s.length → i ≤ j ∧ j ≤ s.length := fun t i j h hi => Mt_le d t i j h hi
    have hRR : ∀ t, ∀ a b, i ≤ a → a ≤ b → b ≤ j → Mt s d t (a + o) (b + o) → Mt s' d t (a + p) (b + p) := fun t a b h1 h2 h3 h => Mt_sh d t a b h2 (by omega) (by omega) (fun x hx hy => hS x (by omega) (by omega)) h
    unfold Mt at h ⊢
    by_cases h1 : k = 1
    · rw [if_pos h1] at h ⊢
      obtain ⟨c, hc, e, hin⟩ := setT_iff.1 h
      refine setT_iff.2 ⟨c, ?_, by omega, hin⟩
      rw [← hS i (Nat.le_refl _) (by omega)]; exact hc
    rw [if_neg h1] at h ⊢
    by_cases h2 : k = 2
    · rw [if_pos h2] at h ⊢
      exact chR_sh hjs kids (fun t _ => hle t) (fun t _ => hRR t) i j (Nat.le_refl _) (Nat.le_refl _) h (by omega)
    rw [if_neg h2] at h ⊢
    by_cases h3 : k = 3
    · rw [if_pos h3] at h ⊢
      obtain ⟨t, ht, h⟩ := h
      exact ⟨t, ht, hRR t i j (Nat.le_refl _) hij (Nat.le_refl _) h⟩
    rw [if_neg h3] at h ⊢
    by_cases h4 : k < 4 ∨ 6 < k
    · rw [if_pos h4] at h; exact h.elim
    rw [if_neg h4] at h ⊢
    match kids, h with
    | t :: _, h =>
      simp only at h ⊢
      by_cases h6 : k = 6
      · rw [if_pos h6] at h ⊢
        rcases h with h | h
        · exact .inl (hRR t i j (Nat.le_refl _) hij (Nat.le_refl _) h)
        · exact .inr (by omega)
      rw [if_neg h6] at h ⊢
      by_cases h5 : k = 4
      · rw [if_pos h5] at h ⊢
        obtain ⟨c, h⟩ := h
        exact ⟨c, itR_sh (hle t) hjs (hRR t) c i j (Nat.le_refl _) (Nat.le_refl _) h (by omega)⟩
      · rw [if_neg h5] at h ⊢
        obtain ⟨c, h⟩ := h
        exact ⟨c, itR_sh (hle t) hjs (hRR t) (c + 1) i j (Nat.le_refl _) (Nat.le_refl _) h (by omega)⟩
theorem Mt_more {b more : List UInt8} {d : Nat} {t : Tr} {f u : Nat} (h1 : f ≤ u) (h2 : u ≤ b.length) : Mt b d t f u ↔ Mt (b ++ more) d t f u := by
  have hs : ∀ x, f ≤ x → x < u → b[x + 0]? = (b ++ more)[x + 0]? := fun x _ hx => by rw [Nat.add_zero, List.getElem?_append_left (by omega)]
  exact ⟨fun h => Mt_sh (o := 0) (p := 0) d t f u h1 h2 (by rw [List.length_append]; omega) hs h, fun h => Mt_sh (o := 0) (p := 0) d t f u h1 (by rw [List.length_append]; omega) h2 (fun x a b => (hs x a b).symm) h⟩
theorem Mt_piece {b : List UInt8} {d : Nat} {t : Tr} {f u : Nat} (h1 : f ≤ u) (h2 : u ≤ b.length) (h : Mt b d t f u) : Mt ((b.drop f).take (u - f)) d t 0 (u - f) := by
  have hl : ((b.drop f).take (u - f)).length = u - f := by rw [List.length_take, List.length_drop]; omega
  have := Mt_sh (s := b) (s' := (b.drop f).take (u - f)) (o := f) (p := 0) d t 0 (u - f) (Nat.zero_le _) (by omega) (by omega) (fun x _ hx => by
    rw [Nat.add_zero, List.getElem?_take_of_lt hx, List.getElem?_drop, Nat.add_comm]) (by rw [Nat.zero_add, show u - f + f = u by omega]; exact h)
  simpa using this
/-- What is found in a longer text. -/
theorem find_grows {b more : List UInt8} {d : Nat} {t : Tr} {a z i k : Int} {ok is : Bool} (h : findR b d t a z ok) (h' : findR (b ++ more) d t i k is) :
    (ok = false → is = false ∨ (b.length : Int) < k) ∧ (ok = true → 0 ≤ a ∧ a ≤ z ∧ z ≤ b.length ∧ is = true ∧ i ≤ a ∧ (i < a ∨ z ≤ k)) := by
  refine ⟨fun e => ?_, fun e => ?_⟩
  · rcases h with ⟨_, _, _, hn⟩ | ⟨e', _⟩
    · rcases h' with ⟨e1, _⟩ | ⟨_, f, u, rfl, rfl, hf, hu, hm, _⟩
      · exact .inl e1
      · refine .inr ?_
        rcases Nat.lt_or_ge b.length u with hlt | hge
        · omega
        · have hfu := (Mt_le d t f u hm hf).1
          exact absurd ((Mt_more hfu hge).2 hm) (hn f u (by omega) hge)
    · rw [e'] at e; cases e
  · rcases h with ⟨e', _⟩ | ⟨_, f, u, rfl, rfl, hf, hu, hm, hl, hg⟩
    · rw [e'] at e; cases e
    · have hfu := (Mt_le d t f u hm hf).1
      have hm' : Mt (b ++ more) d t f u := (Mt_more hfu hu).1 hm
      have hL : (b ++ more).length = b.length + more.length := List.length_append
      rcases h' with ⟨_, _, _, hn⟩ | ⟨e1, f', u', rfl, rfl, hf', hu', hm2, hl', hg'⟩
      · exact absurd hm' (hn f u (by omega) (by omega))
      · have hff : f' ≤ f := by
          rcases Nat.lt_or_ge f f' with hlt | hge
          · exact absurd hm' (hg' f hlt u (by omega))
          · exact hge
        refine ⟨by omega, by omega, by omega, e1, by omega, ?_⟩
        rcases Nat.lt_or_ge f' f with hlt | hge
        · exact .inl (by omega)
        · obtain rfl : f' = f := by omega
          refine .inr ?_
          rcases Nat.lt_or_ge u' u with hlt | hge2
          · exact absurd hm' (hl' u hlt (by omega))
          · omega
/-- What is found is found in itself, as a whole. -/
theorem find_piece {b : List UInt8} {d : Nat} {t : Tr} {f u : Nat} {x y : Int} {z : Bool} (h : findR b d t (f : Nat) (u : Nat) true) (h' : findR ((b.drop f).take (u - f)) d t x y z) : z = true ∧ x = 0 ∧ y = (u : Int) - (f : Int) := by
  rcases h with ⟨e, _⟩ | ⟨_, f0, u0, e1, e2, hf, hu, hm, _, _⟩
  · cases e
  · obtain rfl : f = f0 := by omega
    obtain rfl : u = u0 := by omega
    have hfu := (Mt_le d t f u hm hf).1
    have hp := Mt_piece hfu hu hm
    have hl : ((b.drop f).take (u - f)).length = u - f := by rw [List.length_take, List.length_drop]; omega
    rcases h' with ⟨_, _, _, hn⟩ | ⟨e3, g, v, rfl, rfl, hg1, hv, hm2, hl2, hg2⟩
    · exact absurd hp (hn 0 (u - f) (Nat.zero_le _) (by omega))
    · obtain rfl : g = 0 := by
        rcases Nat.eq_zero_or_pos g with h0 | h0
        · exact h0
        · exact absurd hp (hg2 0 h0 (u - f) (by omega))
      refine ⟨e3, rfl, ?_⟩
      rcases Nat.lt_or_ge v (u - f) with hlt | hge
      · exact absurd hp (hl2 (u - f) hlt (by omega))
      · omega
end Go.Proofs.Ytponepcgokfiiaa
namespace Go.Proofs.Ytponepcgokfiiaa
open Go.RowKit Go.Maps

theorem chR_congr {R R' : Tr → Nat → Nat → Prop} : ∀ (ts : List Tr), (∀ t, t ∈ ts → R t = R' t) → chR R ts = chR R' ts
  | [], _ => rfl
  | t :: ts, h => by
    funext i j
    show (∃ m, R t i m ∧ chR R ts m j) = (∃ m, R' t i m ∧ chR R' ts m j)
    rw [h t (List.mem_cons_self ..), chR_congr ts fun u hu => h u (List.mem_cons_of_mem _ hu)]
theorem Mt_step (s : List UInt8) : ∀ (d : Nat) (t : Tr), GoodT d t → Mt s (d + 1) t = Mt s d t
  | 0, _, h => h.elim
  | d + 1, .mk k rs kids, h => by
    have ih : ∀ t, t ∈ kids → Mt s (d + 1) t = Mt s d t := fun t ht => Mt_step s d t (h.2.2.2 t ht)
    unfold Mt
    by_cases h1 : k = 1
    · rw [if_pos h1, if_pos h1]
    rw [if_neg h1, if_neg h1]
    by_cases h2 : k = 2
    · rw [if_pos h2, if_pos h2, chR_congr kids ih]
    rw [if_neg h2, if_neg h2]
    by_cases h3 : k = 3
    · rw [if_pos h3, if_pos h3]
      funext i j
      apply propext
      exact ⟨fun ⟨t, ht, h⟩ => ⟨t, ht, by rw [← ih t ht]; exact h⟩, fun ⟨t, ht, h⟩ => ⟨t, ht, by rw [ih t ht]; exact h⟩⟩
    rw [if_neg h3, if_neg h3]
    by_cases h4 : k < 4 ∨ 6 < k
    · rw [if_pos h4, if_pos h4]
    rw [if_neg h4, if_neg h4]
    match kids, ih with
    | [], _ => rfl
    | t :: r, ih => simp only; rw [ih t (List.mem_cons_self ..)]
theorem Mt_add (s : List UInt8) {d : Nat} {t : Tr} (h : GoodT d t) : ∀ e, Mt s (d + e) t = Mt s d t
  | 0 => rfl
  | e + 1 => (Mt_step s (d + e) t (good_add d t h e).1).trans (Mt_add s h e)
theorem Mt_deep (s : List UInt8) {d d' : Nat} {t : Tr} (h : GoodT d t) (h' : GoodT d' t) : Mt s d t = Mt s d' t := by
  rw [← Mt_add s h d', ← Mt_add s h' d, Nat.add_comm]
theorem findR_deep {s : List UInt8} {d d' : Nat} {t : Tr} {a b : Int} {ok : Bool} (h : GoodT d t) (h' : GoodT d' t) (hf : findR s d t a b ok) : findR s d' t a b ok := by
  unfold findR at hf ⊢
  rw [← Mt_deep s h h']
  exact hf
def AliveC (W : World) (kind : Int) (s : ByteArray) (e : Ending) (W' : World) : Prop :=
  ∃ p X pp d t, e = .returned (.tuple #[.pointer (some ⟨p, 0, none⟩), .int .i64 0, .int .i64 0]) ∧ PatAt W' X p kind s pp d t ∧ findR [120, 97, 98] d t 1 3 true ∧ (∀ j, X j ∨ j = p → W.heap.size ≤ j) ∧ Below W.heap.size W W'
theorem aliveC_of {kind : Int} {s : ByteArray} {t : Tr} {D : Nat} (hp : patP kind s.data.toList = (t, 0, 0)) (hg : GoodT D t) (hf : findR [120, 97, 98] D t 1 3 true) (W : World) : Calls Try.prog 13 #[.int .i64 kind, .string s] W (AliveC W kind s) := by
  refine (pcomp_any kind s W).mono ?_
  rintro e W' (⟨_, p, X, pp, d, rfl, hP, hx, hb⟩ | ⟨h0, _⟩)
  · rw [hp] at hP
    exact ⟨p, X, pp, d, t, rfl, hP, findR_deep hg hP.good hf, hx, hb⟩
  · rw [hp] at h0; exact absurd rfl h0
def tA1 : Tr := .mk 2 [] [setC 97, setC 98]
def tA2 : Tr := .mk 2 [] [setC 97, .mk 4 [] [anyT]]
def tA3 : Tr := .mk 3 [] [.mk 2 [] [setC 98], .mk 2 [] [setC 97, setC 98]]
theorem pA1 : patP 1 [97, 98] = (tA1, 0, 0) := by kernel_rfl
theorem pA2 : patP 2 [97, 42] = (tA2, 0, 0) := by kernel_rfl
theorem pA3 : patP 3 [98, 124, 97, 98] = (tA3, 0, 0) := by kernel_rfl
theorem gA1 : GoodT 4 tA1 := by simp [GoodT, tA1, setC]
theorem gA2 : GoodT 4 tA2 := by simp [GoodT, tA2, setC, anyT]
theorem gA3 : GoodT 4 tA3 := by simp [GoodT, tA3, setC]
theorem fA1 : findR [120, 97, 98] 4 tA1 1 3 true := findR_tab (f := 1) (u := 3) (by decide) (by decide) (by decide +kernel) (by decide +kernel) (by decide +kernel)
theorem fA2 : findR [120, 97, 98] 4 tA2 1 3 true := findR_tab (f := 1) (u := 3) (by decide) (by decide) (by decide +kernel) (by decide +kernel) (by decide +kernel)
theorem fA3 : findR [120, 97, 98] 4 tA3 1 3 true := findR_tab (f := 1) (u := 3) (by decide) (by decide) (by decide +kernel) (by decide +kernel) (by decide +kernel)
def txtA (j : Nat) : ByteArray := match j with | 0 => ⟨#[]⟩ | 1 => ⟨#[97, 98]⟩ | 2 => ⟨#[97, 42]⟩ | _ => ⟨#[98, 124, 97, 98]⟩
def AlivePost (w : World) (e : Ending) (w' : World) : Prop := e = .returned (.bool true) ∧ Below w.heap.size w w'
set_option maxHeartbeats 4000000 in
set_option maxRecDepth 100000 in
theorem palive_any (w : World) : Calls Try.prog 12 #[] w (AlivePost w) := by
  have hcv := conv_const
  have A1 := fun W => Lib.hid (aliveC_of (kind := 1) (s := ⟨#[97, 98]⟩) pA1 gA1 fA1 W)
  have A2 := fun W => Lib.hid (aliveC_of (kind := 2) (s := ⟨#[97, 42]⟩) pA2 gA2 fA2 W)
  have A3 := fun W => Lib.hid (aliveC_of (kind := 3) (s := ⟨#[98, 124, 97, 98]⟩) pA3 gA3 fA3 W)
  have hbk := Blk.new w 9 #[.string ⟨#[]⟩, .string ⟨#[97, 98]⟩, .string ⟨#[97, 42]⟩, .string ⟨#[98, 124, 97, 98]⟩]
  have hb0 := (Below.refl w.heap.size w).alloc (Nat.le_refl _) (.cells #[.string ⟨#[]⟩, .string ⟨#[97, 98]⟩, .string ⟨#[97, 42]⟩, .string ⟨#[98, 124, 97, 98]⟩] 9)
  have HBK := Lib.hid hbk
  have HB0 := Lib.hid hb0
  have hs0 : w.heap.size < (w.alloc (.cells #[.string ⟨#[]⟩, .string ⟨#[97, 98]⟩, .string ⟨#[97, 42]⟩, .string ⟨#[98, 124, 97, 98]⟩] 9)).heap.size := by simp
  clear hbk hb0
  go_enter Try.func12, Try.ntmps12
  go_wp2_with fail
  go_loopw [11] (fun i wr => ∃ j : Nat, j ≤ 4 ∧ i = .int .i64 (j : Nat) ∧ Below (w.alloc (.cells #[.string ⟨#[]⟩, .string ⟨#[97, 98]⟩, .string ⟨#[97, 42]⟩, .string ⟨#[98, 124, 97, 98]⟩] 9)).heap.size (w.alloc (.cells #[.string ⟨#[]⟩, .string ⟨#[97, 98]⟩, .string ⟨#[97, 42]⟩, .string ⟨#[98, 124, 97, 98]⟩] 9)) wr) (fun i _ => 4 - (intOf i).toNat)
  case atStart => exact ⟨0, Nat.zero_le _, rfl, Below.refl _ _⟩
  case round =>
    obtain ⟨j, hj, rfl, hb⟩ := hrel
    have hbk := HBK.out.below hb hs0
    have q0 := hbk.cell 0; have q1 := hbk.cell 1; have q2 := hbk.cell 2; have q3 := hbk.cell 3
    have HB := Lib.hid hb
    clear hb hbk
    rcases (by omega : j = 0 ∨ j = 1 ∨ j = 2 ∨ j = 3 ∨ j = 4) with rfl | rfl | rfl | rfl | rfl
    · go_wp2
      go_roundw
      case rel => exact ⟨1, by omega, rfl, HB.out⟩
      case measure => simp [intOf]
    rotate_right
    · go_wp2
      go_ret
      exact ⟨rfl, HB0.out.trans (HB.out.mono (Nat.le_of_lt hs0))⟩
    all_goals
      go_wp2_with fail
      first
        | ((with_reducible refine (A1 _).out.mono ?_))
        | ((with_reducible refine (A2 _).out.mono ?_))
        | ((with_reducible refine (A3 _).out.mono ?_))
      rintro e w2 ⟨p, X, pp, d, t, rfl, hP, hf, hx, hb2⟩
      have HF := Lib.hid hf
      have a3 := (Below.refl w2.heap.size w2).alloc (Nat.le_refl _) (.cells #[.int .u8 120, .int .u8 97, .int .u8 98] 5 (3, 4))
      have HP := Lib.hid (hP.below a3)
      have HX := Lib.hid hx
      have HB2 := Lib.hid ((HB.out.trans (hb2.mono HB.out.size)).trans (a3.mono (Nat.le_trans HB.out.size hb2.size)))
      have HXL := Lib.hid (fun j hj => show j < w2.heap.size from by obtain ⟨st, hm⟩ := hP.mach; exact hm.old (show X j from hj))
      have hpl := hP.top.lt
      have HS2 := Lib.hid hb2.size
      clear hP hf hx hb2 a3
      go_wp2_with fail
      refine (pfind_any HP.out (bytes_new w2 [120, 97, 98] (3, 4)) (fun _ b o e hb => by
        have e1 := Option.some.inj e
        injection e1 with e1 _ _
        subst e1
        exact Nat.lt_irrefl _ (HXL.out _ hb)) (by decide)).mono ?_
      rintro e w3 ⟨a, b, ok, rfl, hf3, hP3, hk3⟩
      obtain ⟨rfl, rfl, rfl⟩ := findR_one hf3 HF.out
      have HP3 := Lib.hid hP3
      have HB3 := Lib.hid (HB2.out.trans (hk3.below HB2.out.size (fun j hj => by
        subst hj
        exact Nat.le_trans HB.out.size (HX.out _ (.inl HP.out.in_)))))
      clear hf3 hP3 hk3
      go_wp2_with fail
      refine (pkind_any HP3.out).mono ?_
      rintro e w4 ⟨rfl, rfl⟩
      go_wp2_with fail
      refine (ptext_any HP3.out).mono ?_
      rintro e w4 ⟨rfl, rfl⟩
      go_wp2
      go_roundw
      case rel => first | exact ⟨2, by omega, rfl, HB3.out⟩ | exact ⟨3, by omega, rfl, HB3.out⟩ | exact ⟨4, by omega, rfl, HB3.out⟩
      case measure => simp [intOf]
end Go.Proofs.Ytponepcgokfiiaa
namespace Go.Proofs.Ytponepcgokfiiaa
open Go.RowKit Go.Maps

theorem rowB_empty (w : World) : (w.alloc (.cells #[] 5)).ownsRow 0 5 1 (.slice (some ⟨w.heap.size, 0, none⟩) 0 0) ([] : List UInt8).length (([] : List UInt8).map u8V) :=
  ⟨rfl, .inr ⟨w.heap.size, 0, _, rfl, Nat.zero_le _, heap_alloc_new w _, Nat.le_refl _, by decide, rfl, rfl⟩⟩
theorem row_slice {w : World} {A : Option Addr} {n c : Nat} {xs : List UInt8} (h : w.ownsRow 0 5 1 (.slice A n c) n (xs.map u8V)) (hx : xs.length = n) : BytesAt w A n xs ∧ ∀ b o, A = some ⟨b, o, none⟩ → (Value.slice A n c).ownBlock = some b := by
  subst hx
  obtain ⟨A', c', e, hb, _⟩ := row_bytes h
  injection e with e1 _ _
  subst e1
  exact ⟨hb, fun b o e => by subst e; rfl⟩
theorem app1 {w : World} {A : Option Addr} {n c : Nat} {xs : List UInt8} (hx : BytesAt w A n xs) (hl : n ≤ 1000000) : ∃ A1 c1 w1,
    (Builtin.append_ #[38, 38] 38 #[.slice (some ⟨w.heap.size, 0, none⟩) 0 0, .slice A n c]).run Try.prog (w.alloc (.cells #[] 5)) = .ok (.slice A1 n c1) w1 ∧
    w1.ownsRow 0 5 1 (.slice A1 n c1) n (xs.map u8V) ∧ BytesAt w1 A1 n xs ∧ Below w.heap.size w w1 ∧ (∀ i, (Value.slice A1 n c1).ownBlock = some i → w.heap.size ≤ i) ∧ ∀ b o, A1 = some ⟨b, o, none⟩ → w.heap.size ≤ b := by
  have hs : (w.alloc (.cells #[] 5)).heap.size = w.heap.size + 1 := by simp
  have a4 := (Below.refl w.heap.size w).alloc (Nat.le_refl _) (.cells #[] 5)
  obtain ⟨A1, c1, w1, r, o, g, k⟩ := append_bytes (c := c) 38 (rowB_empty w) (hx.below a4) (by simp; omega)
  simp only [List.length_nil, Nat.zero_add, List.nil_append] at r o g k
  have hxl := hx.1
  rw [hxl] at o
  obtain ⟨hb, ho⟩ := row_slice o hxl
  have hbel : Below w.heap.size w w1 := a4.trans ⟨g.os, g.tape, g.output, by have := g.size; omega, fun i hi => g.block i (by omega) (by
    intro e
    have e : i = w.heap.size := Option.some.inj e
    omega)⟩
  have hk : ∀ i, (Value.slice A1 n c1).ownBlock = some i → w.heap.size ≤ i := fun i hi => by
    rcases k with k | k
    · rw [k] at hi
      have : w.heap.size = i := Option.some.inj hi
      omega
    · rw [k] at hi
      have := Option.some.inj hi
      omega
  exact ⟨A1, c1, w1, r, o, hb, hbel, hk, fun b o e => hk b (ho b o e)⟩
theorem app2 {w : World} {A B : Option Addr} {n m c d : Nat} {xs ys : List UInt8} (hx : BytesAt w A n xs) (hy : BytesAt w B m ys) (hl : n + m ≤ 1000000) : ∃ A1 c1 w1 A2 c2 w2,
    (Builtin.append_ #[38, 38] 38 #[.slice (some ⟨w.heap.size, 0, none⟩) 0 0, .slice A n c]).run Try.prog (w.alloc (.cells #[] 5)) = .ok (.slice A1 n c1) w1 ∧
    (Builtin.append_ #[38, 38] 38 #[.slice A1 n c1, .slice B m d]).run Try.prog w1 = .ok (.slice A2 (n + m) c2) w2 ∧
    BytesAt w2 A2 (n + m) (xs ++ ys) ∧ Below w.heap.size w w2 ∧ ∀ b o, A2 = some ⟨b, o, none⟩ → w.heap.size ≤ b := by
  obtain ⟨A1, c1, w1, r1, o1, _, b1, k1, _⟩ := app1 (c := c) hx (by omega)
  have hxl := hx.1
  have hyl := hy.1
  rw [← hxl] at o1
  obtain ⟨A2, c2, w2, r2, o2, g2, k2⟩ := append_bytes (c := d) 38 o1 (hy.below b1) (by omega)
  rw [List.length_append, hxl, hyl] at o2
  rw [hxl] at r2 k2 g2
  obtain ⟨hb, ho⟩ := row_slice o2 (by rw [List.length_append, hxl, hyl])
  refine ⟨A1, c1, w1, A2, c2, w2, r1, r2, hb, b1.trans ⟨g2.os, g2.tape, g2.output, by have := g2.size; have := b1.size; omega, fun i hi => g2.block i (by have := b1.size; omega) (by
    intro e
    have := k1 i e.symm
    omega)⟩, fun b o e => ?_⟩
  have hob := ho b o e
  rcases k2 with k | k
  · rw [k] at hob; exact k1 b hob
  · rw [k] at hob
    have := Option.some.inj hob
    have := b1.size
    omega
def behind (A : Option Addr) (c k : Nat) : Option Addr := if c = k then A else Option.map (fun x => x.add k) A
theorem BytesAt.behind_ {w : World} {A : Option Addr} {m c k : Nat} {bs : List UInt8} (h : BytesAt w A m bs) (hk : k ≤ m) (hc : m ≤ c) : BytesAt w (behind A c k) (m - k) (bs.drop k) :=
  ⟨by rw [List.length_drop, h.1], fun hm => by
    obtain ⟨b, o, rfl, hlt, hcell⟩ := h.2 (by omega)
    refine ⟨b, o + k, ?_, hlt, fun i z hi => ?_⟩
    · unfold behind
      rw [if_neg (by omega)]
      simp [Addr.add_mid]
    · rw [List.getElem?_drop] at hi
      rw [Nat.add_assoc]
      exact hcell _ z hi⟩
end Go.Proofs.Ytponepcgokfiiaa
namespace Go.Proofs.Ytponepcgokfiiaa
open Go.RowKit Go.Maps

theorem bytes_old {w w' : World} {A : Option Addr} {m : Nat} {bs : List UInt8} {X : Nat → Prop} (h : BytesAt w A m bs) (hX : ∀ j, X j → w.heap.size ≤ j) : 0 < m → ∀ b o, A = some ⟨b, o, none⟩ → ¬ X b := fun hm b o e hx => by
  obtain ⟨b', o', e', hlt, _⟩ := h.2 hm
  rw [e] at e'
  have e' := Option.some.inj e'
  injection e' with e1 _ _
  subst e1
  have := hX b hx
  omega
theorem PatAt.old {w : World} {X : Nat → Prop} {p pp d : Nat} {kind : Int} {s : ByteArray} {t : Tr} (h : PatAt w X p kind s pp d t) {j : Nat} (hj : X j) : j < w.heap.size := by obtain ⟨st, hm⟩ := h.mach; exact hm.old hj
set_option maxHeartbeats 4000000 in
set_option maxRecDepth 100000 in
theorem patGrows_walk {w : World} (kind : Int) (s : ByteArray) {A B : Option Addr} {n m c d : Nat} {bs ms : List UInt8} (hs0 : s.size ≤ maxLen) (hb : BytesAt w A n bs) (hm : BytesAt w B m ms) (hc : n ≤ c) (hn : n ≤ 140737488355328) (hmm : m ≤ 140737488355328) :
    Calls Try.prog 5 #[.int .i64 kind, .string s, .slice A n c, .slice B m d] w (AlivePost w) := by
  have HBS := Lib.hid hb
  have HMS := Lib.hid hm
  unfold maxLen at hs0
  have hsum : IntKind.i64.wrap ((n : Int) + (m : Int)) = (n : Int) + (m : Int) := IntWalk.i64_in _ (by omega)
  clear hb hm
  rcases Nat.lt_or_ge 60 s.size with h60 | h60
  · have h60' : (60 : Int) < (s.size : Int) := by omega
    go_enter Try.func5, Try.ntmps5
    go_wp2_with fail
    refine (palive_any _).mono ?_
    rintro e w1 ⟨rfl, b1⟩
    go_wp2
    go_ret
    exact ⟨rfl, b1⟩
  have h60' : ¬ (60 : Int) < (s.size : Int) := by omega
  rcases Nat.lt_or_ge 200 (n + m) with h200 | h200
  · have h200' : (200 : Int) < (n : Int) + (m : Int) := by omega
    go_enter Try.func5, Try.ntmps5
    go_wp2_with fail
    refine (palive_any _).mono ?_
    rintro e w1 ⟨rfl, b1⟩
    go_wp2
    go_ret
    exact ⟨rfl, b1⟩
  have h200' : ¬ (200 : Int) < (n : Int) + (m : Int) := by omega
  go_enter Try.func5, Try.ntmps5
  go_wp2_with fail
  refine (palive_any _).mono ?_
  rintro e w1 ⟨rfl, b1⟩
  have B1 := Lib.hid b1
  have H1 := Lib.hid (HBS.out.below b1)
  have M1 := Lib.hid (HMS.out.below b1)
  clear b1
  go_wp2_with fail
  refine (pcomp_any kind s _).mono ?_
  rintro e w2 (⟨_, p, X, pp, dd, rfl, hP, hx, hb2⟩ | ⟨h0, rfl, hb2⟩)
  rotate_right
  · have hc' : ((patP kind s.data.toList).2.1 != 0) = true := by simpa using h0
    have hc2 : ((patP kind s.data.toList).2.1 == 0) = false := by simpa using h0
    have HB := Lib.hid (B1.out.trans (hb2.mono B1.out.size))
    clear h0 hb2
    generalize (patP kind s.data.toList).2.1 = cc at *
    generalize (patP kind s.data.toList).2.2 = oo at *
    go_wp2
    go_ret
    exact ⟨rfl, HB.out⟩
  generalize (patP kind s.data.toList).1 = t at hP
  have P2 := Lib.hid hP
  have X2 := Lib.hid hx
  have H2 := Lib.hid (H1.out.below hb2)
  have M2 := Lib.hid (M1.out.below hb2)
  have B2 := Lib.hid (B1.out.trans (hb2.mono B1.out.size))
  have HA := Lib.hid (bytes_old (w' := w2) (X := fun j => X j ∨ j = p) H1.out hx)
  have HMA := Lib.hid (bytes_old (w' := w2) (X := fun j => X j ∨ j = p) M1.out hx)
  have PW := Lib.hid (fun j (hj : j = pp) => show w.heap.size ≤ j from Nat.le_trans B1.out.size (hx j (.inl (hj ▸ hP.in_))))
  clear hP hx hb2
  go_wp2_with fail
  refine (pfind_any P2.out H2.out (fun h b o e hb => HA.out h b o e (.inl hb)) (by omega)).mono ?_
  rintro e w3 ⟨a, z, ok, rfl, hf3, hP3, hk3⟩
  have F3 := Lib.hid hf3
  have P3 := Lib.hid hP3
  have H3 := Lib.hid (BytesAt.keep (w' := w3) H2.out (fun hm b o e hl => hk3.block b hl (fun hb => HA.out hm b o e (.inl (hb ▸ P2.out.in_)))) hk3.size)
  have M3 := Lib.hid (BytesAt.keep (w' := w3) M2.out (fun hm b o e hl => hk3.block b hl (fun hb => HMA.out hm b o e (.inl (hb ▸ P2.out.in_)))) hk3.size)
  have B3 := Lib.hid (B2.out.trans (hk3.below B2.out.size PW.out))
  clear hf3 hP3 hk3
  obtain ⟨A1, c1, w4, A2, c2, w5, r4, r5, hall, b5, k5⟩ := app2 (c := c) (d := d) H3.out M3.out (by omega)
  have R4 := Lib.hid r4
  have R5 := Lib.hid r5
  have P5 := Lib.hid (P3.out.below b5)
  have N5 := Lib.hid hall
  have NA := Lib.hid (fun (_ : 0 < n + m) b o (e : A2 = some ⟨b, o, none⟩) => show ¬ X b from fun hb => Nat.lt_irrefl _ (Nat.lt_of_lt_of_le (P3.out.old hb) (k5 b o e)))
  have H5 := Lib.hid (H3.out.below b5)
  have B5 := Lib.hid (B3.out.trans (b5.mono B3.out.size))
  have S5 := Lib.hid b5.size
  clear r4 r5 hall b5 k5
  go_wp2_with (at_builtin; first | refine wpList_append_run rfl (.tmp 61) (.tmp 62) 38 rfl _ _ _ rfl rfl R4.out ?_ | refine wpList_append_run rfl (.tmp 63) (.tmp 64) 38 rfl _ _ _ rfl rfl R5.out ?_)
  clear R4 R5
  refine (pfind_any P5.out N5.out NA.out (by omega)).mono ?_
  rintro e w6 ⟨i, k, is, rfl, hf6, hP6, hk6⟩
  have hgr := find_grows F3.out hf6
  have hlen := H3.out.1
  rw [hlen] at hgr
  have P6 := Lib.hid hP6
  have H6 := Lib.hid (BytesAt.keep (w' := w6) H5.out (fun hm b o e hl => hk6.block b hl (fun hb => HA.out hm b o e (.inl (hb ▸ P2.out.in_)))) hk6.size)
  have B6 := Lib.hid (B5.out.trans (hk6.below B5.out.size PW.out))
  clear hf6 hP6 hk6 hlen
  rcases ok with _ | _
  · have h1 := hgr.1 rfl
    clear hgr
    rcases is with _ | _
    · clear h1
      go_wp2
      go_ret
      exact ⟨rfl, B6.out⟩
    · have h2 : (n : Int) < k := by
        rcases h1 with h1 | h1
        · cases h1
        · exact h1
      clear h1
      go_wp2
      go_ret
      exact ⟨rfl, B6.out⟩
  obtain ⟨g0, g1, g2, rfl, g4, g5⟩ := hgr.2 rfl
  clear hgr
  obtain ⟨f, rfl⟩ : ∃ f : Nat, a = (f : Nat) := ⟨a.toNat, by omega⟩
  obtain ⟨u, rfl⟩ : ∃ u : Nat, z = (u : Nat) := ⟨z.toNat, by omega⟩
  have hfu : f ≤ u := by omega
  have hun : u ≤ n := by omega
  have huc : u ≤ c := by omega
  obtain ⟨Q, hQ⟩ : ∃ Q, Q = behind A c f := ⟨_, rfl⟩
  have hQ2 : (if c = f then A else Option.map (fun x => x.add f) A) = Q := hQ.symm
  have hpc : BytesAt w6 Q (u - f) ((bs.drop f).take (u - f)) := by
    rw [hQ]
    have := (H6.out.behind_ (c := c) (k := f) (by omega) hc).cut (k := u - f) (by omega)
    exact this
  obtain ⟨A7, c7, w7, r7, _, hb7, b7, _, k7⟩ := app1 (c := c - f) hpc (by omega)
  have R7 := Lib.hid r7
  have P7 := Lib.hid (P6.out.below b7)
  have N7 := Lib.hid hb7
  have NA7 := Lib.hid (fun (_ : 0 < u - f) b o (e : A7 = some ⟨b, o, none⟩) => show ¬ X b from fun hb => Nat.lt_irrefl _ (Nat.lt_of_lt_of_le (P6.out.old hb) (k7 b o e)))
  have B7 := Lib.hid (B6.out.trans (b7.mono B6.out.size))
  clear hQ hpc r7 hb7 b7 k7
  go_wp2_with (at_builtin; refine wpList_append_run rfl (.tmp 85) (.tmp 89) 38 rfl _ _ _ rfl rfl R7.out ?_)
  refine (pfind_any P7.out N7.out NA7.out (by omega)).mono ?_
  rintro e w8 ⟨x, y, zz, rfl, hf8, hP8, hk8⟩
  obtain ⟨rfl, rfl, rfl⟩ := find_piece F3.out hf8
  have B8 := Lib.hid (B7.out.trans (hk8.below B7.out.size PW.out))
  have hw8 : IntKind.i64.wrap ((u : Int) - (f : Int)) = (u : Int) - (f : Int) := IntWalk.i64_in _ (by omega)
  have l1 : (f : Int) ≤ (u : Int) := by omega
  have l2 : (u : Int) ≤ (n : Int) := by omega
  clear hf8 hP8 hk8
  rcases (by omega : i < (f : Int) ∨ (¬ i < (f : Int) ∧ (u : Int) ≤ k)) with l3 | ⟨l3, l4⟩
  all_goals
    clear g5
    go_wp2
    go_ret
    exact ⟨rfl, B8.out⟩
end Go.Proofs.Ytponepcgokfiiaa
