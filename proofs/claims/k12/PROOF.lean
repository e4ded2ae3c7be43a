import PyProof.Rows.All
import Wide.All
import OpenK.AllK
import Wide.FinOn
import HandS.ForMost
import HandS.Wide
import HandS.IsInst
import HandS.Defaults
import HandS.OwnEq
import HandS.Zip
import HandS.Style
import HandS.SetFor
import KE.RegKIsAll
import HandS.FStr
import HandS.NoneIn
import HandS.Exc
import HandS.TryOnly
import HandS.ExcOwn
import HandS.WordsExc
import HandS.ExcIs
import HandS.Walk
import PySem.Challenge.RW_farbetween_k12_prices_judged
set_option Elab.async false
set_option linter.all false
set_option maxRecDepth 100000
/-! Part A: rules and mathematics that hang on no row. -/
namespace Fb
open PySem PySem.Spec PyProof.Rows L2
/-! ### rules -/
section
variable {X : Cx}
/-- // by any divisor but 0 below 2 ^ 9000 -/
def CDivZ (_ j : Int) : Prop := j ≠ 0 ∧ j.natAbs.log2 < 9000
theorem op_fdivZ : OpR X (binaryOp .FloorDiv) (rI CDivZ fun i j => .int (i.fdiv j)) := opI fun _ _ _ _ _ _ _ hc q => floordiv_int hc.1 q (.inl (PyProof.noPylong_of_log2 hc.2))
def ipC (C : Int → Int → Prop) (f : Int → Int → Int) : TIp := fun x y H Q => ∃ i j, x = .int i ∧ y = .int j ∧ C i j ∧ Q (.int (f i j)) H
theorem ip_mulW : PIp X .Mult (ipC CMulW fun i j => i * j) := by
  intro pins s σ H x y v u Q I r1 r2 h
  obtain ⟨i, j, e1, e2, hc, q⟩ := h
  subst e1; subst e2
  obtain ⟨t, rfl⟩ := r1
  obtain ⟨t', rfl⟩ := r2
  exact imul_int ⟨.int _, H, I.tok _, ⟨_, rfl⟩, q⟩ hc.ok
end
/-! ### the same rules with the written part named (within a comprehension) -/
section
variable {X : Cx} {K : PySem.W.Frag} {e : Expr} {ta : TE} {f : Str} {pos : Pos}
theorem pe_fldK (hK : X.K = K) (he : PE X e ta) (hb : attributeBase e f X.env (eval e X.env) = eval e X.env) : PE X (.Attribute e f pos) (tFld K ta f) := hK ▸ pe_fld he hb
theorem ix_listK (hK : X.K = K) : IxR X (rIxL K) := hK ▸ ix_list
theorem ix_tupK (hK : X.K = K) : IxR X (rIxT K) := hK ▸ ix_tup
theorem sl_listK (hK : X.K = K) : SlR X (rSlL K) := hK ▸ sl_list
theorem call_len_seqK (hK : X.K = K) : CallR X (.builtin "len") (fun xs H Q => ∃ p ys, xs = [.ref p] ∧ (SqL K H p ys ∨ SqT K H p ys) ∧ Q (.int ys.length) H) := hK ▸ call_len_seq
theorem call_isiK (hK : X.K = K) : CallR X (.builtin "isinstance") (rIsi K) := hK ▸ call_isi
end
/-- what isinstance asks of a class -/
structure TyIns (K : PySem.W.Frag) (C : Addr) : Prop where
  ha : PySem.W.findIn K (.ref C) "__class__" = some (some (.builtin "object.__class__"))
  hn : PySem.W.specialIn K (.builtin "object.__class__") "__get__" = some (some (.builtin "getset_descriptor.__get__"))
  htk : PySem.W.takesIn K (.builtin "object.__class__") = some true
  hm : PySem.W.mroIn K C (.type "object") = some true
/-! ### heaps -/
theorem same_upd {H : Hp} {p : Addr} {o : HO} (h : H p = none) : Same H (upd H p o) := fun b x e => by
  rw [upd_ne (ne_of_none e h)]
  exact e
theorem same_upd2 {G H : Hp} {p : Addr} {o : HO} (s : Same G H) (h : H p = none) : Same G (upd H p o) := s.trans (same_upd h)
/-- over a new object that has been stored into once more -/
theorem same_over {G H : Hp} {p : Addr} {o : HO} (s : Same G H) (h : G p = none) : Same G (upd H p o) := fun b x e => by
  rw [upd_ne (ne_of_none e h)]
  exact s _ _ e
theorem sqT_new {K : PySem.W.Frag} {H : Hp} {p : Addr} {xs : List V} : SqT K (upd H p (.tup xs)) p xs := .inl (.inl upd_same)
theorem sqL_new {K : PySem.W.Frag} {H : Hp} {p : Addr} {xs : List V} : SqL K (upd H p (.lst xs)) p xs := .inl (.inl upd_same)
/-- the heap without what stands at a -/
def hid (a : Addr) (H : Hp) : Hp := fun b => if b = a then none else H b
theorem hid_same {a : Addr} {H : Hp} : Same (hid a H) H := fun b o e => by
  unfold hid at e
  by_cases h : b = a
  · rw [if_pos h] at e; cases e
  · rw [if_neg h] at e; exact e
theorem hid_ne {a b : Addr} {H : Hp} (h : b ≠ a) : hid a H b = H b := if_neg h
theorem hid_self {a : Addr} {H : Hp} : hid a H a = none := if_pos rfl
theorem hid_mono {a : Addr} {H H' : Hp} (s : Same H H') : Same (hid a H) (hid a H') := fun b o e => by
  by_cases h : b = a
  · rw [h, hid_self] at e; cases e
  · rw [hid_ne h] at e ⊢; exact s _ _ e
theorem hid_upd {a : Addr} {H : Hp} {o : HO} : hid a (upd H a o) = hid a H := by
  funext b
  by_cases h : b = a
  · rw [h, hid_self, hid_self]
  · rw [hid_ne h, hid_ne h, upd_ne h]
theorem hid_updN {a p : Addr} {H : Hp} {o : HO} (h : p ≠ a) : hid a (upd H p o) = upd (hid a H) p o := by
  funext b
  by_cases hb : b = a
  · rw [hb, hid_self, upd_ne (Ne.symm h), hid_self]
  · rw [hid_ne hb]
    by_cases hp : b = p
    · rw [hp, upd_same, upd_same]
    · rw [upd_ne hp, upd_ne hp, hid_ne hb]
/-! ### shares in the heap -/
theorem tb : ¬ (("top" : Str) = "bottom") := by decide +kernel
def flds (q : Rat) : List (Str × V) := putF "bottom" (.int (q.den : Int)) (putF "top" (.int q.num) [])
theorem flds_top (q : Rat) : (flds q).lookup ("top" : Str) = some (.int q.num) := by
  unfold flds
  rw [lookup_putF, if_neg tb, lookup_putF, if_pos rfl]
theorem flds_bottom (q : Rat) : (flds q).lookup ("bottom" : Str) = some (.int (q.den : Int)) := by
  unfold flds
  rw [lookup_putF, if_pos rfl]
def IsShare (C : Addr) (H : Hp) (v : V) (q : Rat) : Prop := ∃ p dx, v = .ref p ∧ H p = some (.ins C dx (flds q))
theorem IsShare.mono {C : Addr} {H H' : Hp} {v : V} {q : Rat} (h : IsShare C H v q) (s : Same H H') : IsShare C H' v q := by
  obtain ⟨p, dx, e, h⟩ := h
  exact ⟨p, dx, e, s _ _ h⟩
/-! ### the greatest common part, and lowest terms -/
theorem gcd_step (a b : Int) : Int.gcd b (a.fmod b) = Int.gcd a b := by
  have e : a.fmod b = a - b * a.fdiv b := Int.fmod_def a b
  rw [e, Int.gcd_sub_mul_left_right, Int.gcd_comm]
theorem fmod_lt (a b : Int) (h : b ≠ 0) : (a.fmod b).natAbs < b.natAbs := by
  rw [Int.fmod_eq_emod]
  have h1 := Int.emod_nonneg a h
  have h2 := Int.emod_lt a h
  split
  · omega
  · rename_i z
    have h3 : ¬ b ∣ a := fun d => z (.inr d)
    have h4 : a % b ≠ 0 := fun e => h3 (Int.dvd_of_emod_eq_zero e)
    have h5 : ¬ 0 ≤ b := fun d => z (.inl d)
    omega
/-- the divisor that brings t over b to lowest terms, its sign the bottom's -/
def cut (t b : Int) : Int := if b < 0 then -(Int.gcd t b : Int) else (Int.gcd t b : Int)
theorem gcd_pos {t b : Int} (h : b ≠ 0) : 0 < Int.gcd t b := Int.gcd_pos_of_ne_zero_right _ h
theorem cut_ne {t b : Int} (h : b ≠ 0) : cut t b ≠ 0 := by
  have := gcd_pos (t := t) h
  unfold cut
  split <;> omega
theorem cut_abs {t b : Int} : (cut t b).natAbs = Int.gcd t b := by
  unfold cut
  split <;> omega
theorem cut_le {t b : Int} (h : b ≠ 0) : (cut t b).natAbs ≤ b.natAbs := by
  rw [cut_abs]
  exact Nat.le_of_dvd (by omega) (Int.natAbs_dvd_natAbs.mpr (Int.gcd_dvd_right t b))
theorem cut_top {t b : Int} (h : b ≠ 0) : t.fdiv (cut t b) = (Rat.divInt t b).num := by
  have d : (Int.gcd t b : Int) ∣ t := Int.gcd_dvd_left t b
  rw [Rat.num_divInt, Int.gcd_comm b t]
  unfold cut
  by_cases hb : b < 0
  · rw [if_pos hb, Int.sign_eq_neg_one_of_neg hb, Int.fdiv_eq_ediv_of_dvd (Int.neg_dvd.mpr d), Int.ediv_neg, Int.neg_one_mul, Int.neg_ediv_of_dvd d]
  · rw [if_neg hb, Int.sign_eq_one_of_pos (by omega), Int.one_mul, Int.fdiv_eq_ediv_of_dvd d]
theorem cut_bottom {t b : Int} (h : b ≠ 0) : b.fdiv (cut t b) = ((Rat.divInt t b).den : Int) := by
  have d : (Int.gcd t b : Int) ∣ b := Int.gcd_dvd_right t b
  rw [Rat.den_divInt, if_neg h, Int.gcd_comm b t]
  unfold cut
  rw [Int.natCast_ediv]
  by_cases hb : b < 0
  · rw [if_pos hb, Int.fdiv_eq_ediv_of_dvd (Int.neg_dvd.mpr d), Int.ediv_neg, ← Int.neg_ediv_of_dvd d]
    congr 1
    omega
  · rw [if_neg hb, Int.fdiv_eq_ediv_of_dvd d]
    congr 1
    omega
end Fb

/-! Part A2: shares as rational numbers, their bounds; sums over a common bottom; lists that comprehensions make. -/
namespace Fb
open PySem PySem.Spec PyProof.Rows L2
/-! ### bounds -/
structure Bd (n : Nat) (q : Rat) : Prop where
  num : q.num.natAbs < 2 ^ n
  den : q.den < 2 ^ n
theorem Bd.mono {n m : Nat} {q : Rat} (h : Bd n q) (l : n ≤ m) : Bd m q :=
  ⟨Nat.lt_of_lt_of_le h.num (Nat.pow_le_pow_right (by decide) l), Nat.lt_of_lt_of_le h.den (Nat.pow_le_pow_right (by decide) l)⟩
theorem Bd.pos {n : Nat} {q : Rat} (h : Bd n q) : 0 < n := by
  have := h.den
  have := q.den_pos
  cases n with
  | zero => simp at *; omega
  | succ n => omega
theorem divInt_num_le {t b : Int} (h : b ≠ 0) : (Rat.divInt t b).num.natAbs ≤ t.natAbs := by
  have d : (cut t b) ∣ t := by
    have d := Int.gcd_dvd_left t b
    unfold cut
    split
    · exact Int.neg_dvd.mpr d
    · exact d
  have e : (Rat.divInt t b).num * cut t b = t := by
    rw [← cut_top h, Int.fdiv_eq_ediv_of_dvd d, Int.ediv_mul_cancel d]
  have e2 := congrArg Int.natAbs e
  rw [Int.natAbs_mul] at e2
  have := cut_ne (t := t) h
  rw [← e2]
  exact Nat.le_mul_of_pos_right _ (by omega)
theorem divInt_den_le {t b : Int} (h : b ≠ 0) : (Rat.divInt t b).den ≤ b.natAbs := by
  rw [Rat.den_divInt, if_neg h]
  exact Nat.div_le_self _ _
theorem Bd.divInt {t b : Int} {n : Nat} (h : b ≠ 0) (ht : t.natAbs < 2 ^ n) (hb : b.natAbs < 2 ^ n) : Bd n (Rat.divInt t b) :=
  ⟨Nat.lt_of_le_of_lt (divInt_num_le h) ht, Nat.lt_of_le_of_lt (divInt_den_le h) hb⟩
theorem den_ne (q : Rat) : (q.den : Int) ≠ 0 := by
  have := q.den_pos
  omega
theorem den_abs {n : Nat} {q : Rat} (h : Bd n q) : (q.den : Int).natAbs < 2 ^ n := by
  have := h.den
  omega
theorem dens_ne (x y : Rat) : (x.den : Int) * (y.den : Int) ≠ 0 := Int.mul_ne_zero (den_ne x) (den_ne y)
theorem rat_add (x y : Rat) : Rat.divInt (x.num * (y.den : Int) + y.num * (x.den : Int)) ((x.den : Int) * (y.den : Int)) = x + y := by
  rw [Rat.add_def', ← Int.natCast_mul, Rat.divInt_ofNat]
theorem rat_sub (x y : Rat) : Rat.divInt (x.num * (y.den : Int) - y.num * (x.den : Int)) ((x.den : Int) * (y.den : Int)) = x - y := by
  rw [Rat.sub_def', ← Int.natCast_mul, Rat.divInt_ofNat]
theorem rat_mul (x y : Rat) : Rat.divInt (x.num * y.num) ((x.den : Int) * (y.den : Int)) = x * y := by
  rw [Rat.mul_def', ← Int.natCast_mul, Rat.divInt_ofNat]
theorem rat_div (x y : Rat) : Rat.divInt (x.num * (y.den : Int)) ((x.den : Int) * y.num) = x / y := by
  rw [Rat.div_def, Rat.inv_def, ← Rat.divInt_mul_divInt, Rat.num_divInt_den]
theorem sum_lt {a b : Int} {n : Nat} (ha : a.natAbs < 2 ^ n) (hb : b.natAbs < 2 ^ n) : (a + b).natAbs < 2 ^ (n + 1) := by
  rw [Nat.pow_succ]
  omega
theorem sub_lt {a b : Int} {n : Nat} (ha : a.natAbs < 2 ^ n) (hb : b.natAbs < 2 ^ n) : (a - b).natAbs < 2 ^ (n + 1) := by
  rw [Nat.pow_succ]
  omega
theorem up {a : Int} {n m : Nat} (ha : a.natAbs < 2 ^ n) (h : n ≤ m) : a.natAbs < 2 ^ m := Nat.lt_of_lt_of_le ha (Nat.pow_le_pow_right (by decide) h)
theorem Bd.add {n m : Nat} {x y : Rat} (hx : Bd n x) (hy : Bd m y) : Bd (n + m + 1) (x + y) := by
  rw [← rat_add]
  refine .divInt (dens_ne x y) (sum_lt (wide_lt hx.num (den_abs hy)) ?_) (up (wide_lt (den_abs hx) (den_abs hy)) (by omega))
  have := wide_lt hy.num (den_abs hx)
  rw [Nat.add_comm] at this
  exact this
theorem Bd.sub {n m : Nat} {x y : Rat} (hx : Bd n x) (hy : Bd m y) : Bd (n + m + 1) (x - y) := by
  rw [← rat_sub]
  refine .divInt (dens_ne x y) (sub_lt (wide_lt hx.num (den_abs hy)) ?_) (up (wide_lt (den_abs hx) (den_abs hy)) (by omega))
  have := wide_lt hy.num (den_abs hx)
  rw [Nat.add_comm] at this
  exact this
theorem Bd.mul {n m : Nat} {x y : Rat} (hx : Bd n x) (hy : Bd m y) : Bd (n + m) (x * y) := by
  rw [← rat_mul]
  exact .divInt (dens_ne x y) (wide_lt hx.num hy.num) (wide_lt (den_abs hx) (den_abs hy))
theorem Bd.div {n m : Nat} {x y : Rat} (hx : Bd n x) (hy : Bd m y) (h0 : y ≠ 0) : Bd (n + m) (x / y) := by
  rw [← rat_div]
  exact .divInt (Int.mul_ne_zero (den_ne x) (fun z => h0 (Rat.num_eq_zero.mp z))) (wide_lt hx.num (den_abs hy)) (wide_lt (den_abs hx) hy.num)
theorem log_of {a : Int} {n : Nat} (h0 : 0 < n) (h : a.natAbs < 2 ^ n) (h9 : n ≤ 9000) : a.natAbs.log2 < 9000 := Nat.lt_of_lt_of_le (PySem.Flt.log2_lt_of h0 h) h9
/-! ### sums over a common bottom -/
def lcmOn : Nat → List Rat → Nat
  | L, [] => L
  | L, q :: r => lcmOn (L * (q.den / Nat.gcd L q.den)) r
theorem lcmOn_pos : ∀ (qs : List Rat) (L : Nat), 0 < L → 0 < lcmOn L qs
  | [], _, h => h
  | q :: r, L, h => by
    refine lcmOn_pos r _ (Nat.mul_pos h (Nat.div_pos (Nat.le_of_dvd q.den_pos (Nat.gcd_dvd_right _ _)) (Nat.gcd_pos_of_pos_left _ h)))
theorem lcmOn_dvd : ∀ (qs : List Rat) (L : Nat), L ∣ lcmOn L qs
  | [], L => Nat.dvd_refl L
  | _ :: r, L => Nat.dvd_trans (Nat.dvd_mul_right L _) (lcmOn_dvd r _)
theorem den_dvd_step (L d : Nat) : d ∣ L * (d / Nat.gcd L d) := by
  rw [← Nat.mul_div_assoc _ (Nat.gcd_dvd_right L d)]
  exact Nat.dvd_lcm_right L d
theorem den_dvd_lcm : ∀ (qs : List Rat) (L : Nat) (q : Rat), q ∈ qs → q.den ∣ lcmOn L qs
  | x :: r, L, q, h => by
    rcases List.mem_cons.mp h with e | h
    · subst e
      exact Nat.dvd_trans (den_dvd_step L q.den) (lcmOn_dvd r _)
    · exact den_dvd_lcm r _ q h
theorem lcmOn_lt : ∀ (qs : List Rat) (L n a : Nat), (∀ q ∈ qs, q.den < 2 ^ n) → L < 2 ^ a → lcmOn L qs < 2 ^ (a + n * qs.length)
  | [], L, n, a, _, h => by simpa [lcmOn] using h
  | q :: r, L, n, a, hq, h => by
    have h1 : L * (q.den / Nat.gcd L q.den) < 2 ^ (a + n) := by
      rw [Nat.pow_add]
      exact Nat.lt_of_le_of_lt (Nat.mul_le_mul_left _ (Nat.div_le_self _ _)) (Nat.mul_lt_mul'' h (hq q List.mem_cons_self))
    have := lcmOn_lt r _ n (a + n) (fun x hx => hq x (List.mem_cons_of_mem _ hx)) h1
    rw [List.length_cons, Nat.mul_succ]
    rw [show a + (n * r.length + n) = a + n + n * r.length by omega]
    exact this
def rsum : List Rat → Rat
  | [] => 0
  | q :: r => q + rsum r
theorem rsum_append : ∀ (a b : List Rat), rsum (a ++ b) = rsum a + rsum b
  | [], b => (Rat.zero_add _).symm
  | q :: r, b => by
    show q + rsum (r ++ b) = q + rsum r + rsum b
    rw [rsum_append r b, Rat.add_assoc]
theorem divInt_add_same (a b d : Int) : Rat.divInt (a + b) d = Rat.divInt a d + Rat.divInt b d := by
  by_cases h : d = 0
  · subst h
    simp [Rat.zero_add]
  · rw [Rat.divInt_add_divInt _ _ h h, ← Int.add_mul, Rat.divInt_mul_right h]
def topsOf (L : Nat) (qs : List Rat) : List Int := qs.map fun q => q.num * ((L / q.den : Nat) : Int)
theorem tops_one {L : Nat} {q : Rat} (h0 : 0 < L) (hd : q.den ∣ L) : Rat.divInt (q.num * ((L / q.den : Nat) : Int)) (L : Int) = q := by
  obtain ⟨k, rfl⟩ := hd
  have hk : k ≠ 0 := fun z => by
    subst z
    simp at h0
  rw [Nat.mul_div_cancel_left _ q.den_pos, Int.natCast_mul, Rat.divInt_mul_right (by omega), Rat.num_divInt_den]
theorem tops_sum {L : Nat} (h0 : 0 < L) : ∀ (qs : List Rat), (∀ q ∈ qs, q.den ∣ L) → Rat.divInt (topsOf L qs).sum (L : Int) = rsum qs
  | [], _ => by simp [topsOf, rsum]
  | q :: r, h => by
    show Rat.divInt (q.num * ((L / q.den : Nat) : Int) + (topsOf L r).sum) (L : Int) = q + rsum r
    rw [divInt_add_same, tops_one h0 (h q List.mem_cons_self), tops_sum h0 r fun x hx => h x (List.mem_cons_of_mem _ hx)]
/-- n bounds each share, N their number -/
structure Few (n N : Nat) (qs : List Rat) : Prop where
  bd : ∀ q ∈ qs, Bd n q
  len : qs.length ≤ N
  small : n * N ≤ 8000
  most : N ≤ 999
  pos : 0 < n
/-! ### values that stand for a list of things -/
def AllAre {α : Type} (R : V → α → Prop) (vs : List V) (xs : List α) : Prop := vs.length = xs.length ∧ ∀ (i : Nat) (v : V) (x : α), vs[i]? = some v → xs[i]? = some x → R v x
theorem AllAre.nil {α : Type} {R : V → α → Prop} : AllAre R [] [] := ⟨rfl, fun i v x h => by simp at h⟩
theorem AllAre.at {α : Type} {R : V → α → Prop} {vs : List V} {xs : List α} {i : Nat} {v : V} (h : AllAre R vs xs) (e : vs[i]? = some v) : ∃ x, xs[i]? = some x ∧ R v x := by
  have hi : i < xs.length := by
    have := (List.getElem?_eq_some_iff.mp e).1
    rw [← h.1]
    exact this
  exact ⟨xs[i], List.getElem?_eq_getElem hi, h.2 i v _ e (List.getElem?_eq_getElem hi)⟩
theorem AllAre.imp {α : Type} {R R' : V → α → Prop} {vs : List V} {xs : List α} (h : AllAre R vs xs) (f : ∀ v x, R v x → R' v x) : AllAre R' vs xs := ⟨h.1, fun i v x a b => f _ _ (h.2 i v x a b)⟩
theorem AllAre.cons {α : Type} {R : V → α → Prop} {v : V} {x : α} {vs : List V} {xs : List α} (r : R v x) (h : AllAre R vs xs) : AllAre R (v :: vs) (x :: xs) := by
  refine ⟨by simp [h.1], fun i a b h1 h2 => ?_⟩
  cases i with
  | zero =>
    simp at h1 h2
    subst h1; subst h2
    exact r
  | succ i =>
    simp at h1 h2
    exact h.2 i a b h1 h2
theorem AllAre.append {α : Type} {R : V → α → Prop} : ∀ {vs us : List V} {xs ys : List α}, AllAre R vs xs → AllAre R us ys → AllAre R (vs ++ us) (xs ++ ys)
  | [], us, [], ys, _, h => h
  | v :: vs, us, x :: xs, ys, h, h' => by
    have t : AllAre R vs xs := ⟨by simpa using h.1, fun i a b h1 h2 => h.2 (i + 1) a b (by simpa using h1) (by simpa using h2)⟩
    exact .cons (h.2 0 v x rfl rfl) (t.append h')
  | [], _, _ :: _, _, h, _ => by simp [AllAre] at h
  | _ :: _, _, [], _, h, _ => by simp [AllAre] at h
theorem AllAre.snoc {α : Type} {R : V → α → Prop} {v : V} {x : α} {vs : List V} {xs : List α} (h : AllAre R vs xs) (r : R v x) : AllAre R (vs ++ [v]) (xs ++ [x]) := h.append (.cons r .nil)
theorem AllAre.take {α : Type} {R : V → α → Prop} {vs : List V} {xs : List α} (n : Nat) (h : AllAre R vs xs) : AllAre R (vs.take n) (xs.take n) := by
  refine ⟨by simp [h.1], fun i a b h1 h2 => ?_⟩
  rw [List.getElem?_take] at h1 h2
  split at h1
  · rw [if_pos (by assumption)] at h2
    exact h.2 i a b h1 h2
  · cases h1
theorem AllAre.drop {α : Type} {R : V → α → Prop} {vs : List V} {xs : List α} (n : Nat) (h : AllAre R vs xs) : AllAre R (vs.drop n) (xs.drop n) := by
  refine ⟨by simp [h.1], fun i a b h1 h2 => ?_⟩
  rw [List.getElem?_drop] at h1 h2
  exact h.2 _ a b h1 h2
theorem AllAre.reverse {α : Type} {R : V → α → Prop} {vs : List V} {xs : List α} (h : AllAre R vs xs) : AllAre R vs.reverse xs.reverse := by
  refine ⟨by simp [h.1], fun i a b h1 h2 => ?_⟩
  have l1 := (List.getElem?_eq_some_iff.mp h1).1
  have l2 := (List.getElem?_eq_some_iff.mp h2).1
  rw [List.length_reverse] at l1 l2
  rw [List.getElem?_reverse l1] at h1
  rw [List.getElem?_reverse l2, ← h.1] at h2
  exact h.2 _ a b h1 h2
/-- a list of shares -/
def IsShares (C : Addr) (H : Hp) (v : V) (qs : List Rat) : Prop := ∃ p vs, v = .ref p ∧ H p = some (.lst vs) ∧ AllAre (IsShare C H) vs qs
theorem IsShares.mono {C : Addr} {H H' : Hp} {v : V} {qs : List Rat} (h : IsShares C H v qs) (s : Same H H') : IsShares C H' v qs := by
  obtain ⟨p, vs, e, h, a⟩ := h
  exact ⟨p, vs, e, s _ _ h, a.imp fun _ _ r => r.mono s⟩
/-! ### comprehensions that only make -/
/-- [e for x in xs]: what is told of the i-th item is told of it to the end -/
theorem lc_all {K : PySem.W.Frag} {a : Addr} {xs : List V} {g : TG} {te : TE} {vs : List Nat} {σ : L2.St} {H1 : Hp} {D : Addr} {Qd : Hp → Prop} (R : Nat → V → Hp → Prop) (mono : ∀ i v H H', Same H H' → R i v H → R i v H')
    (hD : H1 D = none) (hS : SqL K H1 a xs) (hz : xs.length ≤ 1000)
    (hs : ∀ i x H (k : V → Hp → Prop), xs[i]? = some x → Same H1 (hid D H) → (∃ ys, H D = some (.lst ys)) → (∀ y H4, Same H H4 → R i y (hid D H4) → k y H4) → g x (wipe σ vs) H fun σ2 H2 => wipe σ2 vs = wipe σ vs ∧ te σ2 H2 k)
    (hd : ∀ H ys, Same H1 (hid D H) → H D = some (.lst ys) → ys.length = xs.length → (∀ i y, ys[i]? = some y → R i y (hid D H)) → Qd H) :
    ∃ W : Nat → Nat → Hp → Prop, (∃ m, W 0 m (upd H1 D (.lst []))) ∧ ∀ i m H, W i m H →
      ((Itl K a).stop i H ∧ Qd H) ∨ ((Itl K a).go i H ∧ ∃ Nx : Hp → Prop, (∀ H', Nx H' → ∃ m', m' < m ∧ W (i + 1) m' H') ∧ ∀ x H', (Itl K a).yld i H x H' → g x (wipe σ vs) H' fun σ2 H2 => wipe σ2 vs = wipe σ vs ∧ tYes σ2 H2 fun b H3 =>
        if b = true then te σ2 H3 fun y H4 => ∃ acc, H4 D = some (.lst acc) ∧ acc.length < sizeLine ∧ Nx (upd H4 D (.lst (acc ++ [y]))) else Nx H3) := by
  refine lc_list (xs := xs) (fun i H => ∃ ys, Same H1 (hid D H) ∧ H D = some (.lst ys) ∧ ys.length = i ∧ ∀ j y, ys[j]? = some y → R j y (hid D H)) ⟨[], ?_, upd_same, rfl, fun j y h => by simp at h⟩ (fun i H _ h => ?_) (fun i x H hx h => ?_) (fun H h => ?_)
  · intro b o e
    rw [hid_ne (ne_of_none e hD), upd_ne (ne_of_none e hD)]
    exact e
  · obtain ⟨ys, s, _⟩ := h
    exact (s.trans hid_same).seq hS
  · obtain ⟨ys, s, e, l, r⟩ := h
    have hi : i < xs.length := (List.getElem?_eq_some_iff.mp hx).1
    refine hs i x H (fun y H4 => ∃ acc, H4 D = some (.lst acc) ∧ acc.length < sizeLine ∧ ∃ ys, Same H1 (hid D (upd H4 D (.lst (acc ++ [y])))) ∧ (upd H4 D (.lst (acc ++ [y]))) D = some (.lst ys) ∧ ys.length = i + 1 ∧ ∀ j y', ys[j]? = some y' → R j y' (hid D (upd H4 D (.lst (acc ++ [y]))))) hx s ⟨_, e⟩ fun y H4 s4 ry => ?_
    refine ⟨ys, s4 _ _ e, small1000 (by omega), ys ++ [y], ?_, upd_same, by simp [l], fun j y' h => ?_⟩
    · rw [hid_upd]
      exact s.trans (hid_mono s4)
    · rw [hid_upd]
      by_cases hj : j < ys.length
      · rw [List.getElem?_append_left hj] at h
        exact mono _ _ _ _ (hid_mono s4) (r j y' h)
      · rw [List.getElem?_append_right (by omega)] at h
        have hj2 : j - ys.length = 0 := by
          have := (List.getElem?_eq_some_iff.mp h).1
          simp at this
          omega
        rw [hj2] at h
        simp at h
        subst h
        have : j = i := by omega
        rw [this]
        exact ry
  · obtain ⟨ys, s, e, l, r⟩ := h
    exact hd H ys s e l r
end Fb

/-! Part A3: the well of draws, pairs, equality of pairs. -/
namespace Fb
open PySem PySem.Spec PyProof.Rows L2
/-- the well at a, good for n draws more -/
def WellAt (H : Hp) (a : Addr) (n : Nat) : Prop := ∃ w0 w1 w2 : Int, H a = some (.lst [.int w0, .int w1, .int w2]) ∧ 0 ≤ w1 ∧ w1 < 2147483647 ∧ 0 ≤ w2 ∧ w2 + (n : Int) ≤ 1099511627776
theorem WellAt.mono {H : Hp} {a : Addr} {n m : Nat} (h : WellAt H a n) (l : m ≤ n) : WellAt H a m := by
  obtain ⟨w0, w1, w2, e, a1, a2, a3, a4⟩ := h
  exact ⟨w0, w1, w2, e, a1, a2, a3, by omega⟩
theorem WellAt.same {H H' : Hp} {a : Addr} {n : Nat} (h : WellAt H a n) (s : Same H H') : WellAt H' a n := by
  obtain ⟨w0, w1, w2, e, r⟩ := h
  exact ⟨w0, w1, w2, s _ _ e, r⟩
theorem WellAt.ne {H : Hp} {a p : Addr} {n : Nat} (h : WellAt H a n) (e : H p = none) : p ≠ a := by
  obtain ⟨w0, w1, w2, ea, _⟩ := h
  intro z
  rw [z, ea] at e
  cases e
/-- what the seven primes are -/
theorem primes7 {k : Int} (h0 : 0 ≤ k) (h7 : k < 7) : ∃ p : Int, atI [V.int 2147483647, V.int 2147483629, V.int 2147483587, V.int 2147483579, V.int 2147483563, V.int 2147483549, V.int 2147483543] k = some (.int p) ∧ 0 < p ∧ p < 2147483648 := by
  have : k = 0 ∨ k = 1 ∨ k = 2 ∨ k = 3 ∨ k = 4 ∨ k = 5 ∨ k = 6 := by omega
  rcases this with e | e | e | e | e | e | e <;> subst e <;> exact ⟨_, rfl, by decide, by decide⟩
theorem atI_get {α : Type} {xs : List α} {i : Int} (h0 : 0 ≤ i) (h : i < xs.length) : ∃ x, atI xs i = some x ∧ xs[i.toNat]? = some x := by
  have hl : i.toNat < xs.length := by omega
  have g := List.getElem?_eq_getElem hl
  have e : ((i.toNat : Nat) : Int) = i := by omega
  have q := atI_nat g
  rw [e] at q
  exact ⟨_, q, g⟩
/-- a share's two numbers, as a tuple -/
def IsTup2 (H : Hp) (v : V) (t b : Int) : Prop := ∃ p, v = .ref p ∧ H p = some (.tup [.int t, .int b])
theorem IsTup2.mono {H H' : Hp} {v : V} {t b : Int} (h : IsTup2 H v t b) (s : Same H H') : IsTup2 H' v t b := by
  obtain ⟨p, e, h⟩ := h
  exact ⟨p, e, s _ _ h⟩
theorem IsTup2.dp {K : PySem.W.Frag} {H : Hp} {v : V} {t b : Int} (h : IsTup2 H v t b) : Dp K H v (.tuple [.int t, .int b]) := by
  obtain ⟨p, rfl, h⟩ := h
  exact .tup (.inl (.inl h)) (.cons (.int _) (.cons (.int _) .nil))
theorem eqv_tup2 (a b c d : Int) : PyData.eqv (.tuple [.int a, .int b]) (.tuple [.int c, .int d]) = (a == c && b == d) := by
  simp [PyData.eqv, PyData.eqvAll]
theorem shaped2 (a b : Int) : SeqAt.shaped (.tuple [.int a, .int b]) = true := rfl
/-- objects of other kinds than the well's are not hidden with it -/
theorem hid_keep {H : Hp} {a p : Addr} {n : Nat} {o : HO} (w : WellAt H a n) (h : H p = some o) (ho : ∀ xs, o ≠ .lst xs) : hid a H p = some o := by
  obtain ⟨w0, w1, w2, e, _⟩ := w
  rw [hid_ne]
  · exact h
  · intro z
    rw [z, e] at h
    cases h
    exact ho _ rfl
theorem IsTup2.hid {H : Hp} {a : Addr} {n : Nat} {v : V} {t b : Int} (w : WellAt H a n) (h : IsTup2 H v t b) : IsTup2 (hid a H) v t b := by
  obtain ⟨p, e, h⟩ := h
  exact ⟨p, e, hid_keep w h (fun _ => nofun)⟩
theorem IsShare.hid {C : Addr} {H : Hp} {a : Addr} {n : Nat} {v : V} {q : Rat} (w : WellAt H a n) (h : IsShare C H v q) : IsShare C (hid a H) v q := by
  obtain ⟨p, dx, e, h⟩ := h
  exact ⟨p, dx, e, hid_keep w h (fun _ => nofun)⟩
theorem pow_small {i : Int} (h0 : 0 ≤ i) (h : i < 18446744073709551616) : CPow i 5 := ⟨by decide, by decide, by omega⟩
theorem log_pos {m : Int} (h0 : 0 < m) {n : Nat} (hn : 0 < n) (h9 : n ≤ 9000) (h : m < 2 ^ n) : CDivW 0 m := by
  refine ⟨h0, log_of hn ?_ h9⟩
  have : ((2 ^ n : Nat) : Int) = 2 ^ n := by simp
  omega
end Fb
namespace Fb
open PySem PySem.Spec PyProof.Rows L2
/-- a new object beside the well -/
theorem well_new {H : Hp} {a p : Addr} {n : Nat} {o : HO} (w : WellAt H a n) (np : H p = none) : WellAt (upd H p o) a n ∧ Same (hid a H) (hid a (upd H p o)) :=
  ⟨w.same (same_upd np), hid_mono (same_upd np)⟩
theorem sqL_hid {K : PySem.W.Frag} {H : Hp} {a p : Addr} {n : Nat} {xs : List V} (w : WellAt H a n) (np : H p = none) : SqL K (hid a (upd H p (.lst xs))) p xs := by
  rw [hid_updN (w.ne np)]
  exact sqL_new
theorem tup_hid {H : Hp} {a p : Addr} {n : Nat} {t b : Int} (w : WellAt H a n) (np : H p = none) : IsTup2 (hid a (upd H p (.tup [.int t, .int b]))) (.ref p) t b := by
  refine ⟨p, rfl, ?_⟩
  rw [hid_updN (w.ne np), upd_same]
theorem mem5 {α : Type} {a b c d e x : α} {i : Nat} (h : [a, b, c, d, e][i]? = some x) : x = a ∨ x = b ∨ x = c ∨ x = d ∨ x = e := by
  have := List.mem_of_getElem? h
  simpa using this
theorem mem4 {α : Type} {a b c d x : α} {i : Nat} (h : [a, b, c, d][i]? = some x) : x = a ∨ x = b ∨ x = c ∨ x = d := by
  have := List.mem_of_getElem? h
  simpa using this
theorem mem3 {α : Type} {a b c x : α} {i : Nat} (h : [a, b, c][i]? = some x) : x = a ∨ x = b ∨ x = c := by
  have := List.mem_of_getElem? h
  simpa using this
theorem divInt_self (q : Rat) : Rat.divInt q.num (q.den : Int) = q := Rat.num_divInt_den q
end Fb

/-! Part A4: comprehensions beside the well; the law's loop over its numbers. -/
namespace Fb
open PySem PySem.Spec PyProof.Rows L2
theorem hid2_upd {a D : Addr} {H : Hp} {o : HO} (h : D ≠ a) : hid D (hid a (upd H D o)) = hid D (hid a H) := by
  rw [hid_updN h, hid_upd]
theorem hid2_ne {a D : Addr} {H : Hp} (h : D ≠ a) : hid a H D = H D := hid_ne h
theorem WellAt.upd {H : Hp} {a D : Addr} {n : Nat} {o : HO} (w : WellAt H a n) (h : D ≠ a) : WellAt (L2.upd H D o) a n := by
  obtain ⟨w0, w1, w2, e, r⟩ := w
  exact ⟨w0, w1, w2, by rw [upd_ne h.symm]; exact e, r⟩
/-- [e for x in range(..)], each turn at most c draws: what is told of each item stays -/
theorem lc_wellR {lo : Int} {n : Nat} {g : TG} {te : TE} {vs : List Nat} {σ : L2.St} {H1 : Hp} {D a : Addr} {Qd : Hp → Prop} (R : V → Hp → Prop) (mono : ∀ v H H', Same H H' → R v H → R v H') (c f : Nat)
    (hD : H1 D = none) (hw : WellAt H1 a (f + c * n)) (hn : n ≤ 1000)
    (hs : ∀ i H m (k : V → Hp → Prop), i < n → WellAt H a (m + c) → Same (hid a H1) (hid D (hid a H)) → (∃ ys, H D = some (.lst ys)) → (∀ y H4, Same (hid a H) (hid a H4) → WellAt H4 a m → R y (hid D (hid a H4)) → k y H4) →
      g (.int (lo + i)) (wipe σ vs) H fun σ2 H2 => wipe σ2 vs = wipe σ vs ∧ te σ2 H2 k)
    (hd : ∀ H ys, Same (hid a H1) (hid D (hid a H)) → WellAt H a f → H D = some (.lst ys) → ys.length = n → (∀ y ∈ ys, R y (hid D (hid a H))) → Qd H) :
    ∃ W : Nat → Nat → Hp → Prop, (∃ m, W 0 m (upd H1 D (.lst []))) ∧ ∀ i m H, W i m H →
      ((Itr lo n).stop i H ∧ Qd H) ∨ ((Itr lo n).go i H ∧ ∃ Nx : Hp → Prop, (∀ H', Nx H' → ∃ m', m' < m ∧ W (i + 1) m' H') ∧ ∀ x H', (Itr lo n).yld i H x H' → g x (wipe σ vs) H' fun σ2 H2 => wipe σ2 vs = wipe σ vs ∧ tYes σ2 H2 fun b H3 =>
        if b = true then te σ2 H3 fun y H4 => ∃ acc, H4 D = some (.lst acc) ∧ acc.length < sizeLine ∧ Nx (upd H4 D (.lst (acc ++ [y]))) else Nx H3) := by
  have nD : D ≠ a := hw.ne hD
  refine lc_range (fun i H => ∃ ys, Same (hid a H1) (hid D (hid a H)) ∧ WellAt H a (f + c * (n - i)) ∧ H D = some (.lst ys) ∧ ys.length = i ∧ ∀ y ∈ ys, R y (hid D (hid a H))) ⟨[], ?_, hw.upd nD, upd_same, rfl, fun y h => by simp at h⟩ (fun i H hi h => ?_) (fun H h => ?_)
  · rw [hid2_upd nD]
    intro b o e
    have hb : b ≠ D := fun z => by
      rw [z, hid_ne nD, hD] at e
      cases e
    rw [hid_ne hb]
    exact e
  · obtain ⟨ys, s, w, e, l, r⟩ := h
    have ec : f + c * (n - i) = (f + c * (n - (i + 1))) + c := by
      have : n - i = (n - (i + 1)) + 1 := by omega
      rw [this, Nat.mul_succ]
      omega
    rw [ec] at w
    refine hs i H _ (fun y H4 => ∃ acc, H4 D = some (.lst acc) ∧ acc.length < sizeLine ∧ ∃ ys, Same (hid a H1) (hid D (hid a (upd H4 D (.lst (acc ++ [y]))))) ∧ WellAt (upd H4 D (.lst (acc ++ [y]))) a (f + c * (n - (i + 1))) ∧ (upd H4 D (.lst (acc ++ [y]))) D = some (.lst ys) ∧ ys.length = i + 1 ∧ ∀ y' ∈ ys, R y' (hid D (hid a (upd H4 D (.lst (acc ++ [y])))))) hi w s ⟨_, e⟩ fun y H4 s4 w4 ry => ?_
    have e4 : H4 D = some (.lst ys) := by
      have := s4 D (.lst ys) (by rw [hid_ne nD]; exact e)
      rw [hid_ne nD] at this
      exact this
    refine ⟨ys, e4, small1000 (by omega), ys ++ [y], ?_, w4.upd nD, upd_same, by simp [l], fun y' h => ?_⟩
    · rw [hid2_upd nD]
      exact s.trans (hid_mono s4)
    · rw [hid2_upd nD]
      rcases List.mem_append.mp h with h | h
      · exact mono _ _ _ (hid_mono s4) (r y' h)
      · have : y' = y := by simpa using h
        rw [this]
        exact ry
  · obtain ⟨ys, s, w, e, l, r⟩ := h
    rw [Nat.sub_self, Nat.mul_zero] at w
    exact hd H ys s w e l r
/-- what is no list is not hidden with a list -/
theorem hid_no {H : Hp} {D p : Addr} {o : HO} (e : ∃ ys, H D = some (.lst ys)) (h : H p = some o) (ho : ∀ xs, o ≠ .lst xs) : hid D H p = some o := by
  obtain ⟨ys, e⟩ := e
  rw [hid_ne]
  · exact h
  · intro z
    rw [z, e] at h
    cases h
    exact ho _ rfl
theorem IsTup2.hidL {H : Hp} {D : Addr} {v : V} {t b : Int} (e : ∃ ys, H D = some (.lst ys)) (h : IsTup2 H v t b) : IsTup2 (Fb.hid D H) v t b := by
  obtain ⟨p, rfl, h⟩ := h
  exact ⟨p, rfl, hid_no e h (fun _ => nofun)⟩
theorem IsShare.hidL {C : Addr} {H : Hp} {D : Addr} {v : V} {q : Rat} (e : ∃ ys, H D = some (.lst ys)) (h : IsShare C H v q) : IsShare C (Fb.hid D H) v q := by
  obtain ⟨p, dx, rfl, h⟩ := h
  exact ⟨p, dx, rfl, hid_no e h (fun _ => nofun)⟩
theorem allAre_of {α : Type} {R : V → α → Prop} : ∀ {ys : List V}, (∀ y ∈ ys, ∃ x, R y x) → ∃ xs, AllAre R ys xs
  | [], _ => ⟨[], .nil⟩
  | y :: ys, h => by
    obtain ⟨x, hx⟩ := h y List.mem_cons_self
    obtain ⟨xs, hxs⟩ := allAre_of (ys := ys) fun z hz => h z (List.mem_cons_of_mem _ hz)
    exact ⟨x :: xs, .cons hx hxs⟩
theorem AllAre.of_ix {α : Type} {R : V → α → Prop} {ys : List V} {xs : List α} (l : ys.length = xs.length) (h : ∀ (i : Nat) y, ys[i]? = some y → ∃ x, xs[i]? = some x ∧ R y x) : AllAre R ys xs := ⟨l, fun i v x a b => by
  obtain ⟨x', e, r⟩ := h i v a
  rw [e] at b
  cases b
  exact r⟩
theorem AllAre.mem {α : Type} {R : V → α → Prop} {ys : List V} {xs : List α} (h : AllAre R ys xs) {x : α} (hx : x ∈ xs) : ∃ y, R y x := by
  obtain ⟨i, hi, e⟩ := List.mem_iff_getElem.mp hx
  have hl : i < ys.length := by rw [h.1]; exact hi
  exact ⟨ys[i], h.2 i _ x (List.getElem?_eq_getElem hl) (by rw [List.getElem?_eq_getElem hi, e])⟩
theorem rsum_take {qs : List Rat} {i : Nat} {z : Rat} (h : qs[i]? = some z) : rsum (qs.take (i + 1)) = rsum (qs.take i) + z := by
  rw [List.take_add_one, h, rsum_append]
  show rsum (qs.take i) + (z + 0) = _
  rw [Rat.add_zero]
theorem rsum_bd {n : Nat} : ∀ {qs : List Rat}, (∀ q ∈ qs, Bd n q) → Bd ((n + 1) * qs.length + 1) (rsum qs)
  | [], _ => by
    rw [List.length_nil, Nat.mul_zero]
    exact ⟨by decide, by decide⟩
  | q :: r, h => by
    have h1 := (h q List.mem_cons_self).add (rsum_bd (qs := r) fun x hx => h x (List.mem_cons_of_mem _ hx))
    refine h1.mono ?_
    rw [List.length_cons, Nat.mul_succ]
    omega
/-- the law's numbers are whole numbers -/
theorem cells_int {ns : List Int} {lo hi : Option Int} {more : List Int} {i : Nat} {x : V} (h : (cutV (ns.map V.int) lo hi ++ more.map V.int)[i]? = some x) : ∃ z, x = .int z := by
  have m := List.mem_of_getElem? h
  rcases List.mem_append.mp m with m | m
  · have m2 : x ∈ ns.map V.int := by
      unfold cutV at m
      exact List.mem_of_mem_drop (List.mem_of_mem_take m)
    obtain ⟨z, _, e⟩ := List.mem_map.mp m2
    exact ⟨z, e.symm⟩
  · obtain ⟨z, _, e⟩ := List.mem_map.mp m
    exact ⟨z, e.symm⟩
/-- over a heap that has the well's address free, the hidden heap's facts are facts -/
theorem same_hid {H0 H : Hp} {a : Addr} (s : Same H0 (hid a H)) : Same H0 H := s.trans hid_same
/-! ### orders of fractions -/
theorem divInt_neg_iff {n m : Int} (hm : m ≠ 0) : Rat.divInt n m < 0 ↔ n * m < 0 := by
  have key : ∀ {n m : Int}, 0 < m → (Rat.divInt n m < 0 ↔ n * m < 0) := fun {n m} hm => by
    rw [← Rat.not_le, Rat.divInt_nonneg_iff_of_pos_right hm]
    constructor
    · intro h
      exact Int.mul_neg_of_neg_of_pos (by omega) hm
    · intro h z
      have := Int.mul_nonneg z (Int.le_of_lt hm)
      omega
  rcases Int.lt_or_gt_of_ne hm with h | h
  · have e : Rat.divInt n m = Rat.divInt (-n) (-m) := (Rat.neg_divInt_neg n m).symm
    rw [e, key (by omega), Int.neg_mul_neg]
  · exact key h
theorem lt_cross {a b c d : Int} (hb : b ≠ 0) (hd : d ≠ 0) : Rat.divInt a b < Rat.divInt c d ↔ (a * d - c * b) * b * d < 0 := by
  have e : Rat.divInt a b - Rat.divInt c d = Rat.divInt (a * d - c * b) (b * d) := Rat.divInt_sub_divInt a c hb hd
  rw [Int.mul_assoc, ← divInt_neg_iff (Int.mul_ne_zero hb hd), ← e, ← Rat.not_le, Rat.le_iff_sub_nonneg, Rat.not_le]
end Fb

/-! Part A5: rules for ==, != and str of an instance of the program's own class (own __eq__ and __str__, no own __ne__). -/
namespace Fb
open PySem PySem.Spec PyProof.Rows L2
section
variable {prog : Program} {w : World} {A : Around} {E : Value → Shared → Prop} {s : Shared} {K : PySem.W.Frag} {x C f L : Addr} {h0 : Heap} {m : Str → Option Value} {ox : Obj} {od : Option Obj} {b tb : Value}
theorem slot_object_ne : Slot "object" "__ne__" "object.__ne__" :=
  .of (owner := "object") (n := "__ne__") (by rw [typeLookup_type, builtinLookup_eq_fast]; kernel_rfl) (by decide +kernel) (by decide +kernel) (by decide +kernel)
    (by first | exact .inl (by decide +kernel) | exact .inr (by decide +kernel)) (by rw [isSubtype_type]; kernel_rfl)
/-- a special method that is a built-in slot, looked up as comparisons do -/
theorem ifBound_B {M : Model} {name : Str} {id : String} {args : List Value} {Q : Option Value → Shared → Prop} (X : K.In s.heap) (I : PySem.W.InstAt s.heap x ox C od) (hs : PySem.W.findIn K (.ref C) name = some (some (.builtin id)))
    (hb : ∀ self, bindSpecial (.builtin id) self = pure (.builtin id, [self]))
    (h : wpAny M A (call (.builtin id) (.ref x :: args)) (fun v => Q (some v)) E s) : wpAny M A (callSpecialIfBound? (.ref x) name args) Q E s := by
  simp only [callSpecialIfBound?, bindSpecialIfBound?]
  refine wpAny_holding (wpAny_bind (wpAny_bind (wpAny_bind (I.type.here ((PySem.W.looks_findIn X hs).here ?_)))))
  refine wpAny_bind (wpAny_askSetting (wpAny_ite ?_))
  have fin : wpAny M A (call (.builtin id) ([.ref x] ++ args) >>= fun v => pure (some v)) Q E s := wpAny_bind (wpAny_mono h (fun v s' h' => wpAny_pure h') fun _ _ h' => h')
  split
  · exact wpAny_bind ((PySem.W.Looks.of_pure (hb _)).here (wpAny_pure (by exact fin)))
  · exact wpAny_tryCatch (wpAny_bind ((PySem.W.Looks.of_pure (hb _)).here (wpAny_pure (by exact fin))))
theorem objNe_K {Q : Value → Shared → Prop} (hu : A.in1.units < cLine) (X : K.In s.heap) (I : PySem.W.InstAt s.heap x ox C od) (hm : PySem.W.mroIn K C (.type "object") = some true) (hs : PySem.W.findIn K (.ref C) "__eq__" = some (some (.ref f))) (hf : PySem.W.isFn K (.ref f) = true)
    (h : wpAny (model prog w) A.in1 (call (.ref f) [.ref x, b]) (fun v s' => ∃ r, v = .bool r ∧ Q (.bool (!r)) s') E s) : wpAny (model prog w) A (call (.builtin "object.__ne__") [.ref x, b]) Q E s := by
  refine wpAny_call (codeAny_call_builtin slot_object_ne.plain PySem.F.cmpEntry_ne (PySem.W.check_slot (i := "object.__ne__") (owner := "object") (n := "__ne__") (by decide +kernel) (by decide +kernel) (I.type.andThen (PySem.W.looks_mroIn X hm)) (PySem.F.cmpArgs_ne _ _) ?_))
  unfold Builtin.«object.__ne__»
  refine wpAny_bind (m := slotArgs "__ne__" 1 _) (wpAny_pure ?_)
  refine wpAny_bind (m := cRoomFor _ _) (wpAny_cRoomFor hu ?_)
  refine wpAny_bind (m := callSpecialIfBound? (.ref x) (Str.ofString "__eq__") _) (PySem.W.ifBound_K X I hs hf (wpAny_mono h (fun r s' hq => ?_) fun _ _ y => y))
  obtain ⟨r, rfl, q⟩ := hq
  exact wpAny_bind (wpAny_truthy_bool (wpAny_pure q))
theorem ne_K {Q : Value → Shared → Prop} (hu : A.units < cLine) (hu1 : A.in1.units < cLine) (F : PyProof.Rows.Fr h0 L s.heap m) (X₀ : K.In h0) (I : PySem.W.InstAt s.heap x ox C od) (hb : PySem.W.Looks (model prog w) s.heap (typeOf b) tb) (hn : PySem.W.notFirst K C tb = true)
    (hne : PySem.W.findIn K (.ref C) "__ne__" = some (some (.builtin "object.__ne__"))) (hm : PySem.W.mroIn K C (.type "object") = some true) (hs : PySem.W.findIn K (.ref C) "__eq__" = some (some (.ref f))) (hf : PySem.W.isFn K (.ref f) = true)
    (h : wpAny (model prog w) A.in1 (call (.ref f) [.ref x, b]) (fun v s' => ∃ r, v = .bool r ∧ Q (.bool (!r)) s') E s) : wpAny (model prog w) A (richCompare .NotEq (.ref x) b) Q E s := by
  have X := X₀.keeps F.keep
  have one : wpAny (model prog w) A (tryCompare (.ref x) (cmpInfo .NotEq).2.1 b) (fun r s' => ∃ v, r = some v ∧ Q v s') E s := by
    unfold tryCompare
    refine wpAny_bind (ifBound_B X I hne slot_object_ne.bind (objNe_K hu1 X I hm hs hf (wpAny_mono h (fun v s' hv => ?_) fun _ _ e => e)))
    obtain ⟨r, rfl, q⟩ := hv
    exact ⟨r, rfl, wpAny_pure ⟨_, rfl, q⟩⟩
  unfold richCompare
  simp only [oneThing_ref]
  refine wpAny_holding (wpAny_bind (wpAny_cRoomFor hu ?_))
  refine wpAny_bind (I.type.here (wpAny_bind (hb.here ?_)))
  split
  · rename_i q
    have e : PySem.W.subIn K tb (.ref C) = some false := by
      rcases Bool.or_eq_true_iff.mp hn with e | e
      · rw [beq_iff_eq.mp e] at q; simp at q
      · exact beq_iff_eq.mp e
    refine wpAny_bind ((PySem.W.looks_subIn X e).here ?_)
    simp only [Bool.false_eq_true, if_false]
    refine wpAny_bind (wpAny_mono one (fun r s' z => ?_) fun _ _ e => e)
    obtain ⟨v, rfl, hq⟩ := z
    exact wpAny_pure hq
  · refine wpAny_bind (wpAny_pure ?_)
    simp only [Bool.false_eq_true, if_false]
    refine wpAny_bind (wpAny_mono one (fun r s' z => ?_) fun _ _ e => e)
    obtain ⟨v, rfl, hq⟩ := z
    exact wpAny_pure hq
open Builtin Builtin.Str in
theorem str_K {Q : Value → Shared → Prop} (hu : A.in1.in1.units < cLine) (X : K.In s.heap) (I : PySem.W.InstAt s.heap x ox C od) (hs : PySem.W.findIn K (.ref C) "__str__" = some (some (.ref f))) (hf : PySem.W.isFn K (.ref f) = true)
    (h : wpAny (model prog w) A.in1.in1 (call (.ref f) [.ref x]) (PySem.W.StrBack Q) E s) : wpAny (model prog w) A (call (.type "str") [.ref x]) Q E s := by
  refine callType_codes (T := "str") (Bi := Builtin.«object.__init__») (Q₁ := fun r s₁ => ∃ y u, r = .str y u ∧ Q r s₁) PySem.F.called_str (PySem.F.typeCall_str_1 _) PySem.F.entry_object_init ?_ ?_
  · refine codeAny_of_tree ?_
    show wpAny _ A.in1.in1 (do checkBuiltinCall "str.__new__" ⟨[.type "str", .ref x], []⟩; again (.builtin "str.__new__" ⟨[.type "str", .ref x], []⟩)) _ _ s
    refine wpAny_bind (wpAny_of_eq (PySem.F.newCall_str_1 _) (wpAny_pure ⟨plainId_quiet (by decide +kernel) _, codeAny_builtin PySem.F.entry_str_new ?_⟩))
    rw [Around.under_plainId (by decide +kernel) _]
    rw [str_new_tree]
    refine wpAny_bind (wpAny_pure ?_)
    refine wpAny_bind (wpAny_of_eq isSubtype_str_str ?_)
    have key : wpAny (model prog w) A.in1.in1 (PySem.Builtin.Str.strOf (.ref x)) (fun r s₁ => ∃ y u, r = .str y u ∧ Q r s₁) E s := by
      unfold PySem.Builtin.Str.strOf
      rw [show isExactStr (.ref x) = false from rfl]
      refine wpAny_bind (m := cRoomFor _ _) (wpAny_cRoomFor hu ?_)
      refine wpAny_bind (m := callSpecial? (.ref x) (Str.ofString "__str__")) (PySem.W.special_fn X I hs (beq_iff_eq.mp hf) (wpAny_mono h (fun r s' z => ?_) fun _ _ y => y))
      cases r <;> first | exact z.elim | exact wpAny_pure ⟨_, _, rfl, z⟩
    exact wpAny_bind (wpAny_mono key (fun r s₁ hr => wpAny_pure hr) fun _ _ y => y)
  · rintro obj s₁ ⟨y, u, rfl, hq⟩
    exact ⟨typeIs_str _ _ _, PySem.F.args_object_init_2 _ _, object_init_meets PySem.F.called_str.init.lookup PySem.F.called_str.made (by decide) prog w A.in1 _ s₁ ⟨typeIs_str _ _ _, rfl, hq⟩⟩
end
section
variable {X : Cx} {k : Nat} {C f : Addr} {fd : FuncData} {ps : List Str} {sp : Sp}
/-- what is asked of the two: the first an instance of C, the second of a type that is no subclass -/
def rOwn2 (K : PySem.W.Frag) (C : Addr) (sp : Sp) (g : Bool → Bool) : R2 := fun x y H Q => ∃ a dx fs t, x = .ref a ∧ H a = some (.ins C dx fs) ∧ TyX K H y t ∧ PySem.W.notFirst K C t = true ∧ sp [x, y] H (fun v H' => ∃ r, v = .bl r ∧ Q (.bl (g r)) H') E0
theorem run_in {A : Around} {pins : List (Addr × Obj)} {σ : L2.St} {H : Hp} {s : Shared} {Q : VK} {us : List Value} {vs : List V} (F : FnOk X.prog X.w X.K X.mg X.base CX0 k f fd ps sp) (hr : Room k A) (he : Env0 X.prog X.w X.K X.mg X.base A X.stack s H) (hb : Binds X.K fd ps [])
    (I : Inv X pins σ H s) (r : Vals vs us) (h : sp vs H Q E0) : wpAny (model X.prog X.w) A (call (.ref f) us) (EP X pins σ Q) X.xe s := by
  have hl : (us ++ []).length = ps.length := by rw [List.append_nil, ← r.length]; exact F.len _ _ _ _ h
  have hbb := hb s us I.kIn hl
  rw [List.append_nil] at hbb
  refine wpAny_call (codeAny_mono (F.run A X.stack s H ⟨us, []⟩ us vs Q E0 hr he hbb r h) fun r s' hq => ?_)
  cases r with
  | error e => exact hq.elim
  | ok fl =>
    cases fl with
    | ret u => exact I.after hq
    | next => exact False.elim hq
    | brk => exact False.elim hq
    | cont => exact False.elim hq
theorem op_eqOwn (F : FnOk X.prog X.w X.K X.mg X.base CX0 k f fd ps sp) (hr : Room (k + 1) X.A) (hb : Binds X.K fd ps []) (hs : PySem.W.findIn X.K (.ref C) "__eq__" = some (some (.ref f))) (hf : PySem.W.isFn X.K (.ref f) = true) :
    OpR X (compareOp .Eq) (rOwn2 X.K C sp id) := by
  intro pins s σ H x y v u Q I rx ry h
  obtain ⟨a, dx, fs, t, rfl, ha, ty, hn, hsp⟩ := h
  cases rx
  obtain ⟨P, Z, p, _⟩ := kit_of I ry ty
  obtain ⟨mA, J, _⟩ := ins_get I.hok ha
  obtain ⟨od, J, _⟩ := J.look
  obtain ⟨m, hF⟩ := I.fr
  show wpAny (model X.prog X.w) X.A (richCompare .Eq (.ref a) u) (EP X pins σ Q) X.xe s
  refine PySem.W.cmp_K (op := .Eq) (tb := t) hr.units0 hF I.ok.mod.kin J (Z.ty _ _ I.kIn p) hn hs hf ?_
  refine wpAny_mono (run_in F (hr.mono (Nat.le_succ k)) I.env0 hb I (vs := [.ref a, y]) (.cons rfl (.cons ry .nil)) hsp) (fun r s' z => ?_) fun _ _ e => e
  obtain ⟨z1, H', I', rz, b, rfl, q⟩ := z
  cases rz
  exact ⟨.bl b, H', I', rfl, q⟩
theorem op_neOwn (F : FnOk X.prog X.w X.K X.mg X.base CX0 k f fd ps sp) (hr : Room (k + 1) X.A) (hb : Binds X.K fd ps []) (hs : PySem.W.findIn X.K (.ref C) "__eq__" = some (some (.ref f))) (hf : PySem.W.isFn X.K (.ref f) = true)
    (hne : PySem.W.findIn X.K (.ref C) "__ne__" = some (some (.builtin "object.__ne__"))) (hm : PySem.W.mroIn X.K C (.type "object") = some true) :
    OpR X (compareOp .NotEq) (rOwn2 X.K C sp not) := by
  intro pins s σ H x y v u Q I rx ry h
  obtain ⟨a, dx, fs, t, rfl, ha, ty, hn, hsp⟩ := h
  cases rx
  obtain ⟨P, Z, p, _⟩ := kit_of I ry ty
  obtain ⟨mA, J, _⟩ := ins_get I.hok ha
  obtain ⟨od, J, _⟩ := J.look
  obtain ⟨m, hF⟩ := I.fr
  show wpAny (model X.prog X.w) X.A (richCompare .NotEq (.ref a) u) (EP X pins σ Q) X.xe s
  refine ne_K (tb := t) hr.units0 hr.in1.units0 hF I.ok.mod.kin J (Z.ty _ _ I.kIn p) hn hne hm hs hf ?_
  refine wpAny_mono (run_in (A := X.A.in1) F hr.in1 I.env0.in1 hb I (vs := [.ref a, y]) (.cons rfl (.cons ry .nil)) hsp) (fun r s' z => ?_) fun _ _ e => e
  obtain ⟨z1, H', I', rz, b, rfl, q⟩ := z
  cases rz
  exact ⟨b, rfl, .bl (!b), H', I', rfl, q⟩
/-- str of an instance -/
theorem call_strOwn (F : FnOk X.prog X.w X.K X.mg X.base CX0 k f fd ps sp) (hr : Room (k + 2) X.A) (hb : Binds X.K fd ps []) (hs : PySem.W.findIn X.K (.ref C) "__str__" = some (some (.ref f))) (hf : PySem.W.isFn X.K (.ref f) = true) :
    CallR X (.type "str") (fun xs H Q => ∃ a dx fs, xs = [.ref a] ∧ H a = some (.ins C dx fs) ∧ sp [.ref a] H (fun v H' => ∃ z, v = .str z ∧ Q v H') E0) := by
  intro pins s σ H xs us Q I r h
  obtain ⟨a, dx, fs, rfl, ha, hsp⟩ := h
  obtain ⟨u, rfl, ru⟩ := vals1 r
  cases ru
  obtain ⟨mA, J, _⟩ := ins_get I.hok ha
  obtain ⟨od, J, _⟩ := J.look
  refine str_K hr.in1.in1.units0 I.kIn J hs hf ?_
  refine wpAny_mono (run_in (A := X.A.in1.in1) F hr.in1.in1 I.env0.in1.in1 hb I (vs := [.ref a]) (.cons rfl .nil) hsp) (fun r s' z => ?_) fun _ _ e => e
  obtain ⟨z1, H', I', rz, y, rfl, q⟩ := z
  obtain ⟨t, rfl⟩ := rz
  exact ⟨.str y, H', I', ⟨t, rfl⟩, q⟩
/-- the same with the written part named -/
theorem op_eqOwnK {K : PySem.W.Frag} (hK : X.K = K) (F : FnOk X.prog X.w X.K X.mg X.base CX0 k f fd ps sp) (hr : Room (k + 1) X.A) (hb : Binds X.K fd ps []) (hs : PySem.W.findIn X.K (.ref C) "__eq__" = some (some (.ref f))) (hf : PySem.W.isFn X.K (.ref f) = true) :
    OpR X (compareOp .Eq) (rOwn2 K C sp id) := hK ▸ op_eqOwn F hr hb hs hf
end
end Fb

/-! Part A6: counting truths; orders. -/
namespace Fb
open PySem PySem.Spec PyProof.Rows L2
section
variable {X : Cx}
def isT : Value → Bool
  | .bool b => b
  | _ => false
/-- xs.count(True), xs a list of truths -/
def rCntB (K : PySem.W.Frag) : V → List V → Hp → VK → Prop := fun x xs H Q => ∃ (p : Addr) (bs : List Bool), x = .ref p ∧ xs = [.bl true] ∧ SqL K H p (bs.map V.bl) ∧ Q (.int (bs.count true : Nat)) H
theorem mt_countB : MtR X "list.count" (rCntB X.K) := by
  intro pins s σ H x xs v us Q I rx rxs h
  obtain ⟨p, bs, rfl, rfl, hs, q⟩ := h
  cases rx
  obtain ⟨u, rfl, ru⟩ := rxs.one
  cases ru
  obtain ⟨its, rv, ⟨⟨cls, dd, data, sl⟩, n, ho, hc, hdn, hd⟩, hlen⟩ := I.list hs
  simp only at hc hd
  subst hc hd
  have hb := rv.bls
  refine call_meets PySem.F.slot_list_count ⟨_, ho, rfl⟩ PySem.F.entry_list_count (PySem.F.args_list_count_2 _ _)
    (SeqAt.list_countAt p its.toArray n dd sl (.bool true) isT) ⟨ho, fun y hy => ?_, ?_⟩
  · have hy' : y ∈ its := by simpa using hy
    rw [hb] at hy'
    obtain ⟨b, _, rfl⟩ := List.mem_map.mp hy'
    have e := eqAt_V (A := X.A.in1) (s := s) (y := .bl b) (x := .bl true) (u := .bool b) (v := .bool true) rfl rfl rfl rfl
    have e2 : eqV (.bl b) (.bl true) = isT (.bool b) := by cases b <;> rfl
    rw [e2] at e
    exact e
  · have ec : its.toArray.toList.countP isT = bs.count true := by
      rw [hb]
      clear hb rv hs hlen hdn ho q
      induction bs with
      | nil => rfl
      | cons b r ih =>
        simp only [List.map_cons, List.countP_cons, List.count_cons] at ih ⊢
        cases b <;> simp_all [isT]
    refine ⟨.int (bs.count true : Nat), H, I.tok _, ⟨s.toks, ?_⟩, q⟩
    show Value.int ((its.toArray.toList.countP isT : Nat) : Int) s.toks = Value.int ((bs.count true : Nat) : Int) s.toks
    rw [ec]
end
theorem one_of_three (x y : Rat) : [decide (x < y), decide (x = y), decide (y < x)].count true = 1 := by
  by_cases h1 : x < y
  · have h2 : x ≠ y := Rat.ne_of_lt h1
    have h3 : ¬ y < x := Rat.not_lt.mpr (Rat.le_of_lt h1)
    simp [h1, h2, h3]
  · by_cases h2 : x = y
    · subst h2
      simp [h1]
    · have h3 : y < x := Rat.lt_of_le_of_ne (Rat.not_lt.mp h1) (fun e => h2 e.symm)
      simp [h1, h2, h3]
theorem lt_trans' {x y z : Rat} (h1 : x < y) (h2 : y < z) : x < z := by
  have h := Rat.le_trans (Rat.le_of_lt h1) (Rat.le_of_lt h2)
  refine Rat.lt_of_le_of_ne h fun e => ?_
  subst e
  exact Rat.not_le.mpr h1 (Rat.le_of_lt h2)
theorem bd0 : Bd 1 0 := ⟨by decide, by decide⟩
theorem bd1 : Bd 1 1 := ⟨by decide, by decide⟩
theorem rsum_rev : ∀ qs : List Rat, rsum qs.reverse = rsum qs
  | [] => rfl
  | q :: r => by
    rw [List.reverse_cons, rsum_append, rsum_rev r]
    show rsum r + (q + 0) = q + rsum r
    rw [Rat.add_zero, Rat.add_comm]
end Fb
namespace Fb
open PySem PySem.Spec PyProof.Rows L2
theorem cut_from {xs : List V} {k : Nat} (h : k ≤ xs.length) : cutV xs (some (k : Int)) none = xs.drop k := by
  unfold cutV
  rw [HT.sIx_nat, HT.sIx_none, Nat.min_eq_left h]
  exact List.take_of_length_le (by rw [List.length_drop]; exact Nat.le_refl _)
theorem cut_to {xs : List V} {k : Nat} (h : k ≤ xs.length) : cutV xs none (some (k : Int)) = xs.take k := by
  unfold cutV
  rw [HT.sIx_nat, HT.sIx_none, Nat.min_eq_left h]
  rfl
/-- a share with its bound -/
def Sh (C : Addr) (n : Nat) (G : Hp) (v : V) (q : Rat) : Prop := IsShare C G v q ∧ Bd n q
theorem Sh.mono {C : Addr} {n : Nat} {G G' : Hp} {v : V} {q : Rat} (h : Sh C n G v q) (s : Same G G') : Sh C n G' v q := ⟨h.1.mono s, h.2⟩
theorem AllAre.few {C : Addr} {n N : Nat} {G : Hp} {vs : List V} {qs : List Rat} (h : AllAre (Sh C n G) vs qs) (l : vs.length ≤ N) (s : n * N ≤ 8000) (m : N ≤ 999) (p : 0 < n) : Few n N qs :=
  ⟨fun q hq => by obtain ⟨y, hy⟩ := h.mem hq; exact hy.2, by rw [← h.1]; exact l, s, m, p⟩
theorem AllAre.shares {C : Addr} {n : Nat} {G H : Hp} {p : Addr} {vs : List V} {qs : List Rat} (h : AllAre (Sh C n G) vs qs) (s : Same G H) (e : H p = some (.lst vs)) : IsShares C H (.ref p) qs :=
  ⟨p, vs, rfl, e, h.imp fun _ _ r => r.1.mono s⟩
theorem bd_div {n : Nat} {t b : Int} (h : b ≠ 0) (ht : t.natAbs < 2 ^ n) (hb : b.natAbs < 2 ^ n) : Bd n (Rat.divInt t b) := .divInt h ht hb
end Fb

/-! Part A7: errors of the program's own: made in a constructor inside a try, asked for their class in the suite. -/
namespace Fb
open PySem PySem.Spec PyProof.Rows L2
section
variable {X : Cx} {CX : CXT} {k : Nat} {f C : Addr} {fd : FuncData} {ps : List Str} {sp : Sp} {dvs : List V} {ds : List Value} {E : L2.St → XK} {x : Str} {p pos : Pos} {e : Expr} {es : List Expr} {t : TA}
theorem run_makeS {pins : List (Addr × Obj)} {σ : L2.St} {H : Hp} {s : Shared} {Q : VK} {us : List Value} {vs : List V} (M : Mk X.K C f) (F : FnOk X.prog X.w X.K X.mg X.base CX k f fd ps sp) (hr : Room (k + 1) X.A) (hb : Binds X.K fd ps ds) (hd : Vals dvs ds)
    (hx : PassesAt CX X σ (E σ)) (I : Inv X pins σ H s) (r : Vals vs us)
    (h : ∀ x dx, H x = none → H dx = none → dx ≠ x → sp (.ref x :: (vs ++ dvs)) (upd (upd H dx (.own x)) x (.ins C dx [])) (fun v H2 => v = .non ∧ Q (.ref x) H2) (E σ)) :
    wpAny (model X.prog X.w) X.A (call (.ref C) us) (EP X pins σ Q) X.xe s := by
  have hq := h (s.heap.objs.size + 1) s.heap.objs.size (I.hok.fresh (Nat.le_succ _)) (I.hok.fresh (Nat.le_refl _)) (Nat.ne_of_lt (Nat.lt_succ_self _))
  have I2 := Inv.made (C := C) I
  have r2 : Vals (V.ref (s.heap.objs.size + 1) :: (vs ++ dvs)) (Value.ref (s.heap.objs.size + 1) :: (us ++ ds)) := .cons rfl (r.append hd)
  have hl : (Value.ref (s.heap.objs.size + 1) :: us ++ ds).length = ps.length := by
    have e := r2.length
    rw [F.len _ _ _ _ hq] at e
    exact e.symm
  refine wpAny_call (make_map (f := f) I.kIn M.makes M.init (beq_iff_eq.mp M.fn) (codeAny_mono (F.run _ X.stack _ _ ⟨Value.ref (s.heap.objs.size + 1) :: us, []⟩ (Value.ref (s.heap.objs.size + 1) :: (us ++ ds)) _ _ (E σ) (hr.make C us [])
    (I2.env0.make C us []) (hb _ (Value.ref (s.heap.objs.size + 1) :: us) I2.kIn hl) r2 hq) fun r s' hq' => ?_))
  cases r with
  | error e => exact hx pins _ _ e s' I2 hq'
  | ok fl =>
    cases fl with
    | ret u =>
      obtain ⟨v, H', I3, rv, ev, q3⟩ := I2.after hq'
      subst ev
      exact ⟨rv, ⟨V.ref (s.heap.objs.size + 1), H', I3, rfl, q3⟩⟩
    | next => exact False.elim hq'
    | brk => exact False.elim hq'
    | cont => exact False.elim hq'
def tMakeS (C : Addr) (sp : Sp) (dvs : List V) (E : L2.St → XK) (t : TA) : TE := fun σ H Q => t σ H fun vs H1 => ∀ x dx, H1 x = none → H1 dx = none → dx ≠ x →
  sp (.ref x :: (vs ++ dvs)) (upd (upd H1 dx (.own x)) x (.ins C dx [])) (fun v H2 => v = .non ∧ Q (.ref x) H2) (E σ)
theorem pe_makeS (M : Mk X.K C f) (F : FnOk X.prog X.w X.K X.mg X.base CX k f fd ps sp) (hr : Room (k + 1) X.A) (hg : Gl X x) (hm : X.mg x = some (.ref C)) (hb : Binds X.K fd ps ds) (hd : Vals dvs ds) (hx : ∀ σ, PassesAt CX X σ (E σ))
    (ha : PA X (e :: es) t) (hdb : (x == ("__debug__" : Str)) = false := by decide) (he : starEach (e :: es) X.env = (false, eval e X.env) :: starEach es X.env := by rfl) (hpl : (backTo pos (starEach es X.env)).any (·.1) = false := by rfl) :
    PE X (.Call (.Name x p) (e :: es) [] pos) (tMakeS C sp dvs E t) := by
  refine ⟨fun pins s σ H Q I h => ?_⟩
  refine wpAny_Call_Name_kw (ld_glob I hg hm ?_ hdb)
  refine PySem.W.callWith_K (h₀ := X.base) I.ok.mod.kin M.kp (thn (ha.run pos pins s σ H _ I h) fun us s1 ⟨vs, H1, I1, r, q⟩ => ⟨I1.kIn, ?_⟩) he hpl
  exact run_makeS M F hr hb hd (hx σ) I1 r q
end
section
variable {X : Cx} {a : Addr} {oe : Obj} {cls : Value} {d : Option Addr} {pn : List (Addr × Obj)}
/-- isinstance(e, c) and isinstance(e, (c, ..)), e the error that the suite holds, of a class of the program's own -/
def rIsErr (K : PySem.W.Frag) (cls : Value) (d : Option Addr) (a : Addr) : List V → Hp → VK → Prop := fun xs H Q => ∃ (D : Addr) (c : V) (u : Value) (b : Bool), cls = .ref D ∧ d = none ∧ ExcC K D ∧ xs = [.ref a, c] ∧ ClsV c u ∧ PySem.W.kitOne K (.ref D) u = some b ∧ Q (.bl b) H
theorem call_isErr (hz : Zc cls d oe) (hf : ∃ vs, oe.data = .fields vs) : CallR (X.suite a ((a, oe) :: pn)) (.builtin "isinstance") (rIsErr X.K cls d a) := by
  intro pins s σ H xs us Q I r h
  obtain ⟨D, c, u, b, rfl, rfl, C, rfl, k, e, q⟩ := h
  exact call_isE (X := X) C hz hf pins s σ H _ us Q I r ⟨c, u, b, rfl, fun w hw => k.eq hw, e, q⟩
def rIsErrT (K : PySem.W.Frag) (cls : Value) (d : Option Addr) (a : Addr) : List V → Hp → VK → Prop := fun xs H Q => ∃ (D tp : Addr) (cs : List V) (us : List Value) (b : Bool), cls = .ref D ∧ d = none ∧ ExcC K D ∧ xs = [.ref a, .ref tp] ∧ H tp = some (.tup cs) ∧ Paired ClsV cs us ∧ PySem.W.kitAny K (.ref D) us = some b ∧ Q (.bl b) H
theorem call_isErrT (hz : Zc cls d oe) (hf : ∃ vs, oe.data = .fields vs) : CallR (X.suite a ((a, oe) :: pn)) (.builtin "isinstance") (rIsErrT X.K cls d a) := by
  intro pins s σ H xs us Q I r h
  obtain ⟨D, tp, cs, ws, b, rfl, rfl, C, rfl, hT, k, e, q⟩ := h
  obtain ⟨u1, u2, rfl, r1, r2⟩ := vals2 r
  cases r1
  cases r2
  obtain ⟨hget, _⟩ := I.pin (a, oe) (List.mem_append.mpr (.inl List.mem_cons_self))
  obtain ⟨vs, hv⟩ := hf
  have J : PySem.W.InstAt s.heap a oe D none := by
    obtain ⟨oc, od, oda, osl⟩ := oe
    obtain ⟨h1, h2⟩ := hz
    dsimp only at h1 h2 hv
    subst h1 h2 hv
    exact ⟨hget, rfl, rfl, trivial⟩
  obtain ⟨_, its, rv, o, h1, h2, n, h3⟩ := (show ObjOk X.prog X.w H s.heap tp (.tup cs) from I.hok tp _ hT)
  have e3 := ClsV.all k rv
  subst e3
  obtain ⟨oc, od, dt, sl⟩ := o
  simp only at h2 h3
  subst h2 h3
  exact PySem.W.kia_tup (PySem.W.handS_kitx_exc C.hg C.hk C.hs C.hd C.ha C.hn C.ht C.hm) I.kIn J h1 e (fun z => nomatch z) fun tk => ⟨.bl b, H, I.kept (t' := tk) fun _ _ z => z, rfl, q⟩
end
end Fb

/-! Part A8: == and != of lists whose items have an own __eq__, with either answer; pairs that stand for fractions. -/
namespace Fb
open PySem PySem.Spec PySem.SeqAt
open AutoSeq1 (wpAny_loadPart')
open MeetsSeq MeetsSeq2 MeetsSeq3 SeqRoads2
section
variable {prog : Program} {w : World} {A : Around} {R : Result → Shared → Prop}
def ListB (prog : Program) (w : World) (A : Around) (E : Value → Shared → Prop) (l b : Addr) (N : Nat) (e : Nat → Bool) (I : Shared → Prop) : Prop :=
  ∀ s, I s → ∃ (items items2 : Array Value) (n n2 : Nat), s.heap.get? l = some { cls := .type "list", data := .seq items n } ∧ s.heap.get? b = some { cls := .type "list", data := .seq items2 n2 } ∧ items.size = N ∧ items2.size = N ∧
    ∀ i (h1 : i < items.size) (h2 : i < items2.size), wpAny (model prog w) A.in1 (eqBool items[i] items2[i]) (fun r s' => r = e i ∧ I s') E s

/-- at each turn the two lists are read anew: N items each, of the i-th two e tells whether they are equal -/
theorem eq_loopB_eq (l b : Addr) (N : Nat) (e : Nat → Bool) (I : Shared → Prop) (hl : ListB prog w A (fun e s' => R (.error e) s') l b N e I)
    (fin : ∀ s, I s → R (.ok (.ret (.bool (((List.range N).all e))))) s) (k : Nat) :
    ∀ i : Nat, N - i = k → i ≤ N → ((List.range N).take i).all e = true → ∀ s, I s →
      wpAny (model prog w) A.in1 (Builtin.«list.__eq__.loop» ⟨[.ref l, .ref b, rawInt i, rawInt 2], []⟩) (GQ.FinOf prog w A R) (fun e s' => R (.error e) s') s := by
  induction k with
  | zero =>
    intro i hk hi ht s h
    obtain ⟨items, items2, n, n2, hl1, hb1, hs1, hs2, _⟩ := hl _ h
    have hi' : i = N := by omega
    have hR : R (.ok (.ret (.bool ( true)))) s := by
      have := fin s h
      rw [hi', List.take_of_length_le (by simp)] at ht
      rwa [ht] at this
    obtain ⟨hp, g, d, tk, os⟩ := s
    wp_walk using wpAny_loadPart' hl1, wpAny_loadPart' hb1
    have hi1 : items[((i : Nat) : Int).toNat]? = none := by simp; omega
    have hi2 : items2[((i : Nat) : Int).toNat]? = none := by simp; omega
    rw [hi1, hi2]
    wp_walk using wpAny_loadPart' hl1, wpAny_loadPart' hb1
    show R (.ok (.ret (.bool (items.size == items2.size)))) _
    rw [hs1, hs2]
    simpa using hR
  | succ k ih =>
    intro i hk hi ht s h
    obtain ⟨items, items2, n, n2, hl1, hb1, hs1, hs2, turn⟩ := hl _ h
    have hlt : i < items.size := by omega
    have hlt2 : i < items2.size := by omega
    have htn := turn i hlt hlt2
    obtain ⟨hp, g, d, tk, os⟩ := s
    wp_walk using wpAny_loadPart' hl1, wpAny_loadPart' hb1
    have hi1 : items[((i : Nat) : Int).toNat]? = some items[i] := by simp [hlt]
    have hi2 : items2[((i : Nat) : Int).toNat]? = some items2[i] := by simp [hlt2]
    have hc : ((i : Int) + 1) = ((i + 1 : Nat) : Int) := by omega
    rw [hi1, hi2]
    refine wpAny_bind (wpAny_mono htn (fun r s2 h2 => ?_) fun _ _ x => x)
    obtain ⟨hr, h2⟩ := h2
    have hd : (List.range N).drop i = i :: (List.range N).drop (i + 1) := by
      rw [List.drop_eq_getElem_cons (by simp; omega)]
      simp
    cases hb' : e i with
    | true =>
      rw [hb'] at hr
      subst hr
      have ht2 : ((List.range N).take (i + 1)).all e = true := by
        rw [List.take_add_one, List.all_append, ht]
        simp [show i < N by omega, hb']
      have hrec := ih (i + 1) (by omega) (by omega) ht2 s2 h2
      obtain ⟨hp2, g2, d2, tk2, os2⟩ := s2
      wp_walk
      rw [hc]
      exact ⟨plainId_quiet plain_eq_loop _, codeAny_builtin entry_eq_loop (by
        rw [Around.under_plainId plain_eq_loop _]
        exact hrec)⟩
    | false =>
      rw [hb'] at hr
      subst hr
      have hR := fin s2 h2
      have hall : (List.range N).all e = false := by
        rw [← List.take_append_drop i (List.range N), List.all_append, ht, hd, List.all_cons, hb']
        rfl
      rw [hall] at hR
      obtain ⟨items', items2', n', n2', hl2, hb2, hs1', hs2', _⟩ := hl _ h2
      obtain ⟨hp2, g2, d2, tk2, os2⟩ := s2
      have hi1' : items'[((i : Nat) : Int).toNat]? = some (items'[i]'(by omega)) := by simp [show i < items'.size by omega]
      have hi2' : items2'[((i : Nat) : Int).toNat]? = some (items2'[i]'(by omega)) := by simp [show i < items2'.size by omega]
      wp_walk using wpAny_loadPart' hl2, wpAny_loadPart' hb2
      rw [hi1', hi2']
      wp_walk
      simpa using hR
theorem list_eqB_eq (l b : Addr) (N : Nat) (e : Nat → Bool) (I : Shared → Prop) (hl : ListB prog w A (fun e s' => R (.error e) s') l b N e I)
    (fin : ∀ s, I s → R (.ok (.ret (.bool (((List.range N).all e))))) s) {s : Shared} (h : I s) :
    wpAny (model prog w) A.in1 (Builtin.«list.__eq__» ⟨[.ref l, .ref b], []⟩) (GQ.FinOf prog w A R) (fun e s' => R (.error e) s') s := by
  obtain ⟨items, items2, n, n2, hl1, hb1, hs1, hs2, _⟩ := hl _ h
  have hrec := eq_loopB_eq (A := A) (R := R) l b N e I hl fin _ 0 rfl (Nat.zero_le _) rfl s h
  obtain ⟨hp, g, d, tk, os⟩ := s
  have f3 := AutoSeq1.sub_list_list
  have hne : ¬ (items.size != items2.size) = true := by simp [hs1, hs2]
  wp_walk using wpAny_loadPart' hl1, wpAny_loadPart' hb1
  exact ⟨plainId_quiet plain_eq_loop _, codeAny_builtin entry_eq_loop (by
    rw [Around.under_plainId plain_eq_loop _]
    exact hrec)⟩
theorem rc_listB_eq {E : Value → Shared → Prop} {s : Shared} {l b : Addr} {N : Nat} {Q : Value → Shared → Prop} (hu : A.units < cLine) (e : Nat → Bool) (I : Shared → Prop) (hl : ListB prog w A E l b N e I)
    (fin : ∀ s, I s → Q (.bool (((List.range N).all e))) s) (h : I s) : wpAny (model prog w) A (richCompare .Eq (.ref l) (.ref b)) Q E s := by
  obtain ⟨items, items2, n, n2, hl1, hb1, _, _, _⟩ := hl _ h
  refine wpAny_richCompare_same_room (op := .Eq) ⟨_, hl1, rfl⟩ ⟨_, hb1, rfl⟩ F.slot_list_eq (GQ.call_here F.slot_list_eq ⟨_, hl1, rfl⟩ F.entry_list_eq (F.args_list_eq_2 _ _) ?_) hu
  exact list_eqB_eq (R := wants (fun v s' => v ≠ .notImplemented ∧ Q v s') E) l b N e I hl (fun s' q => ⟨(fun x => nomatch x), fin s' q⟩) h

/-- at each turn the two lists are read anew: N items each, of the i-th two e tells whether they are equal -/
theorem eq_loopB_ne (l b : Addr) (N : Nat) (e : Nat → Bool) (I : Shared → Prop) (hl : ListB prog w A (fun e s' => R (.error e) s') l b N e I)
    (fin : ∀ s, I s → R (.ok (.ret (.bool (!((List.range N).all e))))) s) (k : Nat) :
    ∀ i : Nat, N - i = k → i ≤ N → ((List.range N).take i).all e = true → ∀ s, I s →
      wpAny (model prog w) A.in1 (Builtin.«list.__eq__.loop» ⟨[.ref l, .ref b, rawInt i, rawInt 3], []⟩) (GQ.FinOf prog w A R) (fun e s' => R (.error e) s') s := by
  induction k with
  | zero =>
    intro i hk hi ht s h
    obtain ⟨items, items2, n, n2, hl1, hb1, hs1, hs2, _⟩ := hl _ h
    have hi' : i = N := by omega
    have hR : R (.ok (.ret (.bool (! true)))) s := by
      have := fin s h
      rw [hi', List.take_of_length_le (by simp)] at ht
      rwa [ht] at this
    obtain ⟨hp, g, d, tk, os⟩ := s
    wp_walk using wpAny_loadPart' hl1, wpAny_loadPart' hb1
    have hi1 : items[((i : Nat) : Int).toNat]? = none := by simp; omega
    have hi2 : items2[((i : Nat) : Int).toNat]? = none := by simp; omega
    rw [hi1, hi2]
    wp_walk using wpAny_loadPart' hl1, wpAny_loadPart' hb1
    show R (.ok (.ret (.bool (items.size != items2.size)))) _
    rw [hs1, hs2]
    simpa using hR
  | succ k ih =>
    intro i hk hi ht s h
    obtain ⟨items, items2, n, n2, hl1, hb1, hs1, hs2, turn⟩ := hl _ h
    have hlt : i < items.size := by omega
    have hlt2 : i < items2.size := by omega
    have htn := turn i hlt hlt2
    obtain ⟨hp, g, d, tk, os⟩ := s
    wp_walk using wpAny_loadPart' hl1, wpAny_loadPart' hb1
    have hi1 : items[((i : Nat) : Int).toNat]? = some items[i] := by simp [hlt]
    have hi2 : items2[((i : Nat) : Int).toNat]? = some items2[i] := by simp [hlt2]
    have hc : ((i : Int) + 1) = ((i + 1 : Nat) : Int) := by omega
    rw [hi1, hi2]
    refine wpAny_bind (wpAny_mono htn (fun r s2 h2 => ?_) fun _ _ x => x)
    obtain ⟨hr, h2⟩ := h2
    have hd : (List.range N).drop i = i :: (List.range N).drop (i + 1) := by
      rw [List.drop_eq_getElem_cons (by simp; omega)]
      simp
    cases hb' : e i with
    | true =>
      rw [hb'] at hr
      subst hr
      have ht2 : ((List.range N).take (i + 1)).all e = true := by
        rw [List.take_add_one, List.all_append, ht]
        simp [show i < N by omega, hb']
      have hrec := ih (i + 1) (by omega) (by omega) ht2 s2 h2
      obtain ⟨hp2, g2, d2, tk2, os2⟩ := s2
      wp_walk
      rw [hc]
      exact ⟨plainId_quiet plain_eq_loop _, codeAny_builtin entry_eq_loop (by
        rw [Around.under_plainId plain_eq_loop _]
        exact hrec)⟩
    | false =>
      rw [hb'] at hr
      subst hr
      have hR := fin s2 h2
      have hall : (List.range N).all e = false := by
        rw [← List.take_append_drop i (List.range N), List.all_append, ht, hd, List.all_cons, hb']
        rfl
      rw [hall] at hR
      obtain ⟨items', items2', n', n2', hl2, hb2, hs1', hs2', _⟩ := hl _ h2
      obtain ⟨hp2, g2, d2, tk2, os2⟩ := s2
      have hi1' : items'[((i : Nat) : Int).toNat]? = some (items'[i]'(by omega)) := by simp [show i < items'.size by omega]
      have hi2' : items2'[((i : Nat) : Int).toNat]? = some (items2'[i]'(by omega)) := by simp [show i < items2'.size by omega]
      wp_walk using wpAny_loadPart' hl2, wpAny_loadPart' hb2
      rw [hi1', hi2']
      wp_walk
      simpa using hR
theorem list_eqB_ne (l b : Addr) (N : Nat) (e : Nat → Bool) (I : Shared → Prop) (hl : ListB prog w A (fun e s' => R (.error e) s') l b N e I)
    (fin : ∀ s, I s → R (.ok (.ret (.bool (!((List.range N).all e))))) s) {s : Shared} (h : I s) :
    wpAny (model prog w) A.in1 (Builtin.«list.__ne__» ⟨[.ref l, .ref b], []⟩) (GQ.FinOf prog w A R) (fun e s' => R (.error e) s') s := by
  obtain ⟨items, items2, n, n2, hl1, hb1, hs1, hs2, _⟩ := hl _ h
  have hrec := eq_loopB_ne (A := A) (R := R) l b N e I hl fin _ 0 rfl (Nat.zero_le _) rfl s h
  obtain ⟨hp, g, d, tk, os⟩ := s
  have f3 := AutoSeq1.sub_list_list
  have hne : ¬ (items.size != items2.size) = true := by simp [hs1, hs2]
  wp_walk using wpAny_loadPart' hl1, wpAny_loadPart' hb1
  exact ⟨plainId_quiet plain_eq_loop _, codeAny_builtin entry_eq_loop (by
    rw [Around.under_plainId plain_eq_loop _]
    exact hrec)⟩
theorem rc_listB_ne {E : Value → Shared → Prop} {s : Shared} {l b : Addr} {N : Nat} {Q : Value → Shared → Prop} (hu : A.units < cLine) (e : Nat → Bool) (I : Shared → Prop) (hl : ListB prog w A E l b N e I)
    (fin : ∀ s, I s → Q (.bool (!((List.range N).all e))) s) (h : I s) : wpAny (model prog w) A (richCompare .NotEq (.ref l) (.ref b)) Q E s := by
  obtain ⟨items, items2, n, n2, hl1, hb1, _, _, _⟩ := hl _ h
  refine wpAny_richCompare_same_room (op := .NotEq) ⟨_, hl1, rfl⟩ ⟨_, hb1, rfl⟩ F.slot_list_ne (GQ.call_here F.slot_list_ne ⟨_, hl1, rfl⟩ F.entry_list_ne (F.args_list_ne_2 _ _) ?_) hu
  exact list_eqB_ne (R := wants (fun v s' => v ≠ .notImplemented ∧ Q v s') E) l b N e I hl (fun s' q => ⟨(fun x => nomatch x), fin s' q⟩) h
end
end Fb

namespace Fb
open PySem PySem.Spec PyProof.Rows L2
/-- what == of two values tells, by the abstract heap -/
abbrev EqvB := V → V → Bool → Hp → Prop
/-- == tells what D says, and nothing else changes -/
def EqB (X : Cx) (n : Nat) (D : EqvB) : Prop :=
  ∀ (A : Around) (pins : List (Addr × Obj)) (s : Shared) (σ : L2.St) (H : Hp) (x y : V) (u v : Value) (b : Bool), Sub X n A → Inv X pins σ H s → RelV x u → RelV y v → D x y b H →
    wpAny (model X.prog X.w) A (eqBool u v) (fun r s' => r = b ∧ Inv X pins σ H s') X.xe s
def RcB (X : Cx) (n : Nat) (op : CmpOp) (g : Bool → Bool) (D : EqvB) : Prop :=
  ∀ (A : Around) (pins : List (Addr × Obj)) (s : Shared) (σ : L2.St) (H : Hp) (x y : V) (u v : Value) (b : Bool), Sub X n A → Inv X pins σ H s → RelV x u → RelV y v → D x y b H →
    wpAny (model X.prog X.w) A (richCompare op u v) (fun r s' => r = .bool (g b) ∧ Inv X pins σ H s') X.xe s
def Refl (D : EqvB) : Prop := ∀ x b H, D x x b H → b = true
section
variable {X : Cx} {n : Nat} {D : EqvB}
theorem RcB.eqB (h : RcB X n .Eq id D) (hr : ∀ x y b H, D x y b H → ∃ a c, x = .ref a ∧ y = .ref c) (hf : Refl D) : EqB X n D := by
  intro A pins s σ H x y u v b sb I rx ry d
  obtain ⟨a, c, rfl, rfl⟩ := hr _ _ _ _ d
  cases rx
  cases ry
  by_cases hab : a = c
  · subst hab
    rw [hf _ _ _ d]
    exact SeqAt.EqAt.same (A := A) (s := s) (.ref a) X.prog X.w X.xe _ ⟨rfl, I⟩
  · refine GQ.eqBool_refG hab (wpAny_mono (h A pins s σ H (.ref a) (.ref c) _ _ b sb I rfl rfl d) (fun r s' q => ?_) fun _ _ x => x)
    obtain ⟨hr', q⟩ := q
    exact ⟨b, hr', rfl, q⟩
/-- instances of the class at C with the text's own ==, whose promise sp tells b and changes nothing -/
def DInsB (C : Addr) (sp : Sp) : EqvB := fun x y b H => ∃ a c dx dy fs gs, x = .ref a ∧ y = .ref c ∧ H a = some (.ins C dx fs) ∧ H c = some (.ins C dy gs) ∧ sp [x, y] H (fun v H' => v = .bl b ∧ H' = H) E0
theorem rcB_ins {C f : Addr} {fd : FuncData} {ps : List Str} {sp : Sp} (F : FnOk X.prog X.w X.K X.mg X.base CX0 n f fd ps sp)
    (hs : PySem.W.findIn X.K (.ref C) "__eq__" = some (some (.ref f))) (hf : PySem.W.isFn X.K (.ref f) = true) (hb : Binds X.K fd ps []) : RcB X n .Eq id (DInsB C sp) := by
  intro A pins s σ H x y u v b sb I rx ry d
  obtain ⟨a, c, dx, dy, fs, gs, rfl, rfl, ha, hc, hsp⟩ := d
  cases rx
  cases ry
  obtain ⟨mA, J, _⟩ := ins_get I.hok ha
  obtain ⟨mB, J', _⟩ := ins_get I.hok hc
  obtain ⟨od, J, _⟩ := J.look
  obtain ⟨od', J', _⟩ := J'.look
  obtain ⟨m, hF⟩ := I.fr
  refine PySem.W.cmp_K (op := .Eq) (tb := .ref C) sb.room.units0 hF I.ok.mod.kin J J'.type (by simp [PySem.W.notFirst]) hs hf ?_
  have e0 : Env0 X.prog X.w X.K X.mg X.base A X.stack s H := by
    have e := I.env0
    exact ⟨by rw [sb.fr]; exact e.frames, e.mod, e.bs, e.bsz, e.funs, e.frf, e.hok, e.bare⟩
  refine wpAny_mono (run_in F sb.room e0 hb I (vs := [.ref a, .ref c]) (.cons rfl (.cons rfl .nil)) hsp) (fun r s' z => ?_) fun _ _ e => e
  obtain ⟨z1, H', I', rz, rfl, rfl⟩ := z
  cases rz
  exact ⟨rfl, I'⟩
def DListB (D : EqvB) : EqvB := fun x y b H => ∃ a c xs ys, x = .ref a ∧ y = .ref c ∧ H a = some (.lst xs) ∧ H c = some (.lst ys) ∧ xs.length = ys.length ∧
  ∃ e : Nat → Bool, (∀ (i : Nat) x y, xs[i]? = some x → ys[i]? = some y → D x y (e i) H) ∧ b = (List.range xs.length).all e
theorem refl_list (h : Refl D) : Refl (DListB D) := by
  intro x b H d
  obtain ⟨a, c, xs, ys, rfl, e, ha, hc, _, f, hf, rfl⟩ := d
  cases e
  rw [ha] at hc
  cases hc
  rw [List.all_eq_true]
  intro i hi
  have hi : i < xs.length := by simpa using hi
  exact h _ _ _ (hf i xs[i] xs[i] (List.getElem?_eq_getElem hi) (List.getElem?_eq_getElem hi))
theorem turnB (h : EqB X n D) {A : Around} (sb : Sub X (n + 1) A) {pins : List (Addr × Obj)} {σ : L2.St} {H : Hp} {xs ys : List V} {its its2 : List Value} {e : Nat → Bool} (p : ∀ (i : Nat) x y, xs[i]? = some x → ys[i]? = some y → D x y (e i) H) (r : Vals xs its) (r2 : Vals ys its2)
    (i : Nat) (h1 : i < its.toArray.size) (h2 : i < its2.toArray.size) (s' : Shared) (l : Inv X pins σ H s') :
    wpAny (model X.prog X.w) A.in1 (eqBool its.toArray[i] its2.toArray[i]) (fun r s2 => r = e i ∧ Inv X pins σ H s2) X.xe s' := by
  have g1 : its[i]? = some its.toArray[i] := by
    have h1' : i < its.length := by simpa using h1
    rw [List.getElem?_eq_getElem h1'] <;> simp
  have g2 : its2[i]? = some its2.toArray[i] := by
    have h2' : i < its2.length := by simpa using h2
    rw [List.getElem?_eq_getElem h2'] <;> simp
  have k1 : i < xs.length := by rw [r.length]; simpa using h1
  have k2 : i < ys.length := by rw [r2.length]; simpa using h2
  obtain ⟨u, hu, ru⟩ := r.get (List.getElem?_eq_getElem k1)
  obtain ⟨v, hv, rv⟩ := r2.get (List.getElem?_eq_getElem k2)
  rw [g1] at hu
  rw [g2] at hv
  rw [Option.some.inj hu, Option.some.inj hv]
  exact h A.in1 pins s' σ H _ _ u v _ sb.in1 l ru rv (p i _ _ (List.getElem?_eq_getElem k1) (List.getElem?_eq_getElem k2))
theorem rcB_list (h : EqB X n D) : RcB X (n + 1) .Eq id (DListB D) := by
  intro A pins s σ H x y u v b sb I rx ry d
  obtain ⟨a, c, xs, ys, rfl, rfl, ha, hc, hl, e, p, rfl⟩ := d
  cases rx
  cases ry
  refine rc_listB_eq (N := xs.length) sb.room.units0 e (fun s' => Inv X pins σ H s') (fun s' q => ?_) (fun s' q => ⟨rfl, q⟩) I
  obtain ⟨z, its, k, r, ea⟩ := q.hok a _ ha
  obtain ⟨z2, its2, k2, r2, ec⟩ := q.hok c _ hc
  exact ⟨its.toArray, its2.toArray, k, k2, ea, ec, by rw [List.size_toArray, ← r.length], by rw [List.size_toArray, ← r2.length, hl], fun i h1 h2 => turnB h sb p r r2 i h1 h2 s' q⟩
theorem rcB_listN (h : EqB X n D) : RcB X (n + 1) .NotEq not (DListB D) := by
  intro A pins s σ H x y u v b sb I rx ry d
  obtain ⟨a, c, xs, ys, rfl, rfl, ha, hc, hl, e, p, rfl⟩ := d
  cases rx
  cases ry
  refine rc_listB_ne (N := xs.length) sb.room.units0 e (fun s' => Inv X pins σ H s') (fun s' q => ?_) (fun s' q => ⟨rfl, q⟩) I
  obtain ⟨z, its, k, r, ea⟩ := q.hok a _ ha
  obtain ⟨z2, its2, k2, r2, ec⟩ := q.hok c _ hc
  exact ⟨its.toArray, its2.toArray, k, k2, ea, ec, by rw [List.size_toArray, ← r.length], by rw [List.size_toArray, ← r2.length, hl], fun i h1 h2 => turnB h sb p r r2 i h1 h2 s' q⟩
theorem eqB_list (h : EqB X n D) (hf : Refl D) : EqB X (n + 1) (DListB D) := (rcB_list h).eqB (fun _ _ _ _ d => let ⟨a, c, _, _, hx, hy, _⟩ := d; ⟨a, c, hx, hy⟩) (refl_list hf)
/-- x == y, x != y as expressions -/
def rEqB (g : Bool → Bool) (D : EqvB) : R2 := fun x y H Q => ∃ b, D x y b H ∧ Q (.bl (g b)) H
theorem op_eqB (h : RcB X n .Eq id D) (hr : Room n X.A) : OpR X (compareOp .Eq) (rEqB id D) := by
  intro pins s σ H x y v u Q I rx ry hq
  obtain ⟨b, d, q⟩ := hq
  show wpAny (model X.prog X.w) X.A (richCompare .Eq v u) (EP X pins σ Q) X.xe s
  refine wpAny_mono (h X.A pins s σ H x y v u b ⟨hr, rfl⟩ I rx ry d) (fun r s' z => ?_) fun _ _ x => x
  obtain ⟨rfl, I'⟩ := z
  exact ⟨.bl b, H, I', rfl, q⟩
theorem op_neB (h : RcB X n .NotEq not D) (hr : Room n X.A) : OpR X (compareOp .NotEq) (rEqB not D) := by
  intro pins s σ H x y v u Q I rx ry hq
  obtain ⟨b, d, q⟩ := hq
  show wpAny (model X.prog X.w) X.A (richCompare .NotEq v u) (EP X pins σ Q) X.xe s
  refine wpAny_mono (h X.A pins s σ H x y v u b ⟨hr, rfl⟩ I rx ry d) (fun r s' z => ?_) fun _ _ x => x
  obtain ⟨rfl, I'⟩ := z
  exact ⟨.bl (!b), H, I', rfl, q⟩
end
/-! ### tuples, != with equal items -/
section
open PySem.SeqAt MeetsSeq MeetsSeq2 MeetsSeq3 SeqRoads2
open AutoSeq1 (wpAny_loadPart')
variable {prog : Program} {w : World} {A : Around} {R : Result → Shared → Prop}
theorem tuple_neG (l b : Addr) (items items2 : Array Value) (n n2 : Nat) (dd dd2 : Option Addr) (sl sl2 : Array (Option Value)) (hsz : items.size = items2.size) (I : Shared → Prop)
    (turn : ∀ i (h1 : i < items.size) (h2 : i < items2.size) s, I s → wpAny (model prog w) A.in1 (eqBool items[i] items2[i]) (fun r s' => r = true ∧ I s') (fun e s' => R (.error e) s') s)
    (fin : ∀ s, I s → R (.ok (.ret (.bool false))) s) {s : Shared} (hl1 : s.heap.get? l = some { cls := .type "tuple", dict := dd, data := .seq items n, slots := sl }) (hb1 : s.heap.get? b = some { cls := .type "tuple", dict := dd2, data := .seq items2 n2, slots := sl2 }) (h : I s) :
    wpAny (model prog w) A.in1 (Builtin.«tuple.__ne__» ⟨[.ref l, .ref b], []⟩) (GQ.FinOf prog w A R) (fun e s' => R (.error e) s') s := by
  have f2 := AutoSeq1.sub_tuple_tuple
  have hZ : (items.toList.zip items2.toList).length = items.size := by simp [hsz]
  have h0 := h
  obtain ⟨hp, g, d, tk, os⟩ := s
  wp_walk using wpAny_loadPart' hl1, wpAny_loadPart' hb1, wpAny_forIn_list _ (fun rest b s' => b.1 = none ∧ ∃ i, rest = (items.toList.zip items2.toList).drop i ∧ i ≤ items.size ∧ I s') _
  case turn =>
    rintro ⟨y, x⟩ rest b s' ⟨hb', i, hz, hi, hI⟩
    have hlt : i < (items.toList.zip items2.toList).length := by
      rcases Nat.lt_or_ge i (items.toList.zip items2.toList).length with h' | h'
      · exact h'
      · rw [List.drop_of_length_le h'] at hz; cases hz
    have h1 : i < items.size := hZ ▸ hlt
    have h2 : i < items2.size := hsz ▸ h1
    rw [List.drop_eq_getElem_cons hlt] at hz
    injection hz with hyx hrest
    have hy : y = items[i] := by have := congrArg Prod.fst hyx; simpa using this
    have hx : x = items2[i] := by have := congrArg Prod.snd hyx; simpa using this
    subst hy hx
    refine wpAny_bind (wpAny_mono (turn i h1 h2 s' hI) (fun r s2 q2 => ?_) fun _ _ x => x)
    obtain ⟨hr, q2⟩ := q2
    subst hr
    wp_walk
    exact ⟨rfl, i + 1, hrest, h1, q2⟩
  case fin =>
    rintro ⟨b1, b2⟩ s' ⟨hb', i, hz, hi, hI⟩
    simp only at hb'
    subst hb'
    have hR : R (.ok (.ret (.bool false))) s' := fin s' hI
    wp_walk
    simpa [Builtin.Tuple.tupleCompareSizes, hsz] using hR
  case h =>
    exact ⟨rfl, 0, rfl, Nat.zero_le _, h0⟩
theorem rc_tupN {E : Value → Shared → Prop} {s : Shared} {l b : Addr} {items items2 : Array Value} {Q : Value → Shared → Prop} (hsz : items.size = items2.size) (hu : A.units < cLine) (I : Shared → Prop)
    (hl : s.heap.IsTuple l items) (hb : s.heap.IsTuple b items2)
    (turn : ∀ i (h1 : i < items.size) (h2 : i < items2.size) s, I s → wpAny (model prog w) A.in1 (eqBool items[i] items2[i]) (fun r s' => r = true ∧ I s') E s)
    (fin : ∀ s, I s → Q (.bool false) s) (h : I s) : wpAny (model prog w) A (richCompare .NotEq (.ref l) (.ref b)) Q E s := by
  obtain ⟨⟨cls, dd, data, sl⟩, ho, hc, n, hd⟩ := id hl
  obtain ⟨⟨cls2, dd2, data2, sl2⟩, ho2, hc2, n2, hd2⟩ := id hb
  simp only at hc hd hc2 hd2
  subst hc hd hc2 hd2
  refine wpAny_richCompare_same_room (op := .NotEq) ⟨_, ho, rfl⟩ ⟨_, ho2, rfl⟩ F.slot_tuple_ne (GQ.call_here F.slot_tuple_ne ⟨_, ho, rfl⟩ F.entry_tuple_ne (F.args_tuple_ne_2 _ _) ?_) hu
  exact tuple_neG (R := wants (fun v s' => v ≠ .notImplemented ∧ Q v s') E) l b items items2 n n2 dd dd2 sl sl2 hsz I turn (fun s' q => ⟨(fun x => nomatch x), fin s' q⟩) ho ho2 h
end
section
variable {X : Cx} {n : Nat} {D : EqvB}
/-- two tuples of as many items, each two equal -/
def DTupT (K : PySem.W.Frag) (D : EqvB) : EqvB := fun x y b H => ∃ a c xs ys, x = .ref a ∧ y = .ref c ∧ SqT K H a xs ∧ SqT K H c ys ∧ xs.length = ys.length ∧ (∀ (i : Nat) x y, xs[i]? = some x → ys[i]? = some y → D x y true H) ∧ b = true
theorem rcB_tupN (h : EqB X n D) : RcB X (n + 1) .NotEq not (DTupT X.K D) := by
  intro A pins s σ H x y u v b sb I rx ry d
  obtain ⟨a, c, xs, ys, rfl, rfl, ha, hc, hl, p, rfl⟩ := d
  cases rx
  cases ry
  obtain ⟨its, r, e, z⟩ := I.tuple ha
  obtain ⟨its2, r2, e2, z2⟩ := I.tuple hc
  have hsz : its.toArray.size = its2.toArray.size := by rw [List.size_toArray, List.size_toArray, ← r.length, ← r2.length]; exact hl
  exact rc_tupN hsz sb.room.units0 (fun s' => Inv X pins σ H s') e e2 (fun i h1 h2 s' q => turnB (e := fun _ => true) h sb p r r2 i h1 h2 s' q) (fun s' q => ⟨rfl, q⟩) I
end
end Fb

namespace Fb
open PySem PySem.Spec PyProof.Rows L2
/-- a suite's if without else, both ways told by one condition -/
theorem ite_mid {c A : Prop} [Decidable c] {Rest : L2.St → Hp → Prop} {σ : L2.St} {H : Hp} (M : L2.St → Hp → Prop) (h1 : c → (∀ σ H, M σ H → Rest σ H) → A) (h2 : ¬ c → M σ H) (h3 : ∀ σ H, M σ H → Rest σ H) : if c then A else Rest σ H := by
  by_cases h : c
  · rw [if_pos h]
    exact h1 h h3
  · rw [if_neg h]
    exact h3 _ _ (h2 h)
theorem cr_sumK {X : Cx} {K : PySem.W.Frag} (hK : X.K = K) (hc : X.calm = true) : CallR X (.builtin "sum") (rSum K) := hK ▸ cr_sum hc
theorem none_back {H H' : Hp} {a p : Addr} {f : Nat} (s : Same (hid a H) (hid a H')) (w : WellAt H' a f) (h : H' p = none) : H p = none := by
  have hp : p ≠ a := w.ne h
  cases e : H p with
  | none => rfl
  | some o =>
    have := s p o (by rw [hid_ne hp]; exact e)
    rw [hid_ne hp, h] at this
    cases this
/-- a list of weights of the law's own, beside the well -/
structure WtAt (H : Hp) (a : Addr) (m : Nat) (B : Int) (f : Nat) (pw : Addr) (ns : List Int) (H' : Hp) : Prop where
  new : H pw = none
  ne : pw ≠ a
  at_ : H' pw = some (.lst (ns.map V.int))
  len : ns.length = m
  bd : ∀ x ∈ ns, 0 ≤ x ∧ x ≤ B
  same : Same (hid a H) (hid pw (hid a H'))
  well : WellAt H' a f
theorem WtAt.step {H : Hp} {a : Addr} {m : Nat} {B : Int} {f f' : Nat} {pw : Addr} {ns : List Int} {H1 H2 : Hp} (h : WtAt H a m B f pw ns H1) (s : Same (hid a H1) (hid a H2)) (w : WellAt H2 a f') : WtAt H a m B f' pw ns H2 := by
  refine ⟨h.new, h.ne, ?_, h.len, h.bd, h.same.trans (hid_mono s), w⟩
  have := s pw _ (by rw [hid_ne h.ne]; exact h.at_)
  rwa [hid_ne h.ne] at this
theorem WtAt.upB {H : Hp} {a : Addr} {m : Nat} {B B' : Int} {f : Nat} {pw : Addr} {ns : List Int} {H1 : Hp} (h : WtAt H a m B f pw ns H1) (l : B ≤ B') : WtAt H a m B' f pw ns H1 :=
  ⟨h.new, h.ne, h.at_, h.len, fun x hx => ⟨(h.bd x hx).1, Int.le_trans (h.bd x hx).2 l⟩, h.same, h.well⟩
theorem WtAt.set {H : Hp} {a : Addr} {m : Nat} {B : Int} {f : Nat} {pw : Addr} {ns : List Int} {H1 : Hp} (h : WtAt H a m B f pw ns H1) (j : Nat) {v : Int} (v0 : 0 ≤ v) (v1 : v ≤ B) : WtAt H a m B f pw (ns.set j v) (upd H1 pw (.lst ((ns.map V.int).set j (.int v)))) := by
  refine ⟨h.new, h.ne, by rw [upd_same, ← List.map_set], by rw [List.length_set, h.len], fun x hx => ?_, by rw [hid2_upd h.ne]; exact h.same, h.well.upd h.ne⟩
  rcases List.mem_or_eq_of_mem_set hx with e | e
  · exact h.bd x e
  · subst e
    exact ⟨v0, v1⟩
/-! ### heaps -/
/-- a heap as the law draws it -/
structure HeapOk (qs : List Rat) : Prop where
  nn : ∀ q ∈ qs, 0 ≤ q
  den : ∃ S : Nat, 0 < S ∧ S ≤ 1000 ∧ ∀ q ∈ qs, q.den ∣ S
  one : rsum qs = 1
theorem rsum_div (S : Int) : ∀ ns : List Int, rsum (ns.map fun x => Rat.divInt x S) = Rat.divInt ns.sum S
  | [] => by simp [rsum]
  | x :: r => by
    rw [List.map_cons, List.sum_cons, divInt_add_same, ← rsum_div S r]
    rfl
theorem sum_nn : ∀ {ns : List Int}, (∀ x ∈ ns, 0 ≤ x) → 0 ≤ ns.sum
  | [], _ => by simp
  | x :: r, h => by
    rw [List.sum_cons]
    have := h x List.mem_cons_self
    have := sum_nn (ns := r) fun y hy => h y (List.mem_cons_of_mem _ hy)
    omega
theorem sum_le {B : Int} : ∀ {ns : List Int}, (∀ x ∈ ns, x ≤ B) → ns.sum ≤ ns.length * B
  | [], _ => by simp
  | x :: r, h => by
    rw [List.sum_cons, List.length_cons]
    have := h x List.mem_cons_self
    have := sum_le (ns := r) fun y hy => h y (List.mem_cons_of_mem _ hy)
    have e : ((r.length + 1 : Nat) : Int) * B = (r.length : Int) * B + B := by
      rw [Int.natCast_add, Int.add_mul]
      simp
    rw [e]
    omega
theorem sum_ge : ∀ {ns : List Int}, (∀ x ∈ ns, 0 ≤ x) → ∀ {x : Int}, x ∈ ns → x ≤ ns.sum
  | y :: r, h, x, hx => by
    rw [List.sum_cons]
    have h0 := h y List.mem_cons_self
    have hr := sum_nn (ns := r) fun y hy => h y (List.mem_cons_of_mem _ hy)
    rcases List.mem_cons.mp hx with e | e
    · subst e
      omega
    · have := sum_ge (ns := r) (fun y hy => h y (List.mem_cons_of_mem _ hy)) e
      omega
theorem den_dvd_bot {t : Int} {S : Nat} (h : 0 < S) : (Rat.divInt t (S : Int)).den ∣ S := by
  rw [Rat.den_divInt, if_neg (by omega)]
  simp only [Int.natAbs_natCast]
  refine Nat.div_dvd_of_dvd ?_
  have := Int.gcd_dvd_left (S : Int) t
  exact Int.natCast_dvd_natCast.mp this
theorem heap_ok {ns : List Int} {B : Int} (hb : ∀ x ∈ ns, 0 ≤ x ∧ x ≤ B) (h0 : 0 < ns.sum) (hl : ns.length ≤ 12) (hB : 0 ≤ B ∧ B ≤ 60) : HeapOk (ns.map fun x => Rat.divInt x ns.sum) := by
  have hS : ((ns.sum.toNat : Nat) : Int) = ns.sum := by omega
  have le : ns.sum ≤ 1000 := by
    have := sum_le fun x hx => (hb x hx).2
    have := Int.mul_le_mul (a := (ns.length : Int)) (b := B) (c := 12) (d := 60) (by omega) hB.2 hB.1 (by decide)
    omega
  refine ⟨fun q hq => ?_, ⟨ns.sum.toNat, by omega, by omega, fun q hq => ?_⟩, ?_⟩
  · obtain ⟨x, hx, rfl⟩ := List.mem_map.mp hq
    exact (Rat.divInt_nonneg_iff_of_pos_right h0).mpr (hb x hx).1
  · obtain ⟨x, hx, rfl⟩ := List.mem_map.mp hq
    rw [← hS]
    exact den_dvd_bot (by omega)
  · rw [rsum_div, Rat.divInt_self' (by omega)]
end Fb

/-! Part A11: pairs that stand for fractions, vectors and tables of them; a list compared with []; the mathematics of filling. -/
namespace Fb
open PySem PySem.Spec PyProof.Rows L2
section
variable {X : Cx}
/-- a list against [] -/
def rNil (K : PySem.W.Frag) (g : Bool → Bool) : R2 := fun x y H Q => ∃ a c xs, x = .ref a ∧ y = .ref c ∧ SqL K H a xs ∧ SqL K H c [] ∧ Q (.bl (g xs.isEmpty)) H
theorem op_eqNil (hu : X.A.units < cLine) : OpR X (compareOp .Eq) (rNil X.K id) := by
  intro pins s σ H x y v u Q I rx ry h
  obtain ⟨a, c, xs, rfl, rfl, ha, hc, q⟩ := h
  cases rx
  cases ry
  obtain ⟨its, r, hl, _⟩ := I.list ha
  obtain ⟨its2, r2, hl2, _⟩ := I.list hc
  cases r2
  show wpAny (model X.prog X.w) X.A (richCompare .Eq (.ref a) (.ref c)) (EP X pins σ Q) X.xe s
  cases r with
  | nil => exact SeqAt.RcAt.lists (e := fun _ => true) hl.isList hl2.isList rfl hu (fun j h => absurd h (by simp)) X.prog X.w X.xe _ ⟨.bl true, H, I, rfl, q⟩
  | cons _ _ => exact SeqAt.RcAt.lists_lengths hl.isList hl2.isList (by simp) hu X.prog X.w X.xe _ ⟨.bl false, H, I, rfl, q⟩
theorem op_neNil (hu : X.A.units < cLine) : OpR X (compareOp .NotEq) (rNil X.K not) := by
  intro pins s σ H x y v u Q I rx ry h
  obtain ⟨a, c, xs, rfl, rfl, ha, hc, q⟩ := h
  cases rx
  cases ry
  obtain ⟨its, r, hl, _⟩ := I.list ha
  obtain ⟨its2, r2, hl2, _⟩ := I.list hc
  cases r2
  show wpAny (model X.prog X.w) X.A (richCompare .NotEq (.ref a) (.ref c)) (EP X pins σ Q) X.xe s
  cases r with
  | nil => exact SeqAt.RcNeAt.lists (e := fun _ => true) hl.isList hl2.isList rfl hu (fun j h => absurd h (by simp)) X.prog X.w X.xe _ ⟨.bl false, H, I, rfl, q⟩
  | cons _ _ => exact SeqAt.RcNeAt.lists_lengths hl.isList hl2.isList (by simp) hu X.prog X.w X.xe _ ⟨.bl true, H, I, rfl, q⟩
theorem op_eqNilK {K : PySem.W.Frag} (hK : X.K = K) (hu : X.A.units < cLine) : OpR X (compareOp .Eq) (rNil K id) := hK ▸ op_eqNil hu
end
/-! ### pairs -/
def IsPr (H : Hp) (v : V) (q : Rat) : Prop := IsTup2 H v q.num (q.den : Int)
theorem IsPr.mono {H H' : Hp} {v : V} {q : Rat} (h : IsPr H v q) (s : Same H H') : IsPr H' v q := IsTup2.mono h s
def IsPrs (H : Hp) (v : V) (qs : List Rat) : Prop := ∃ p vs, v = .ref p ∧ H p = some (.lst vs) ∧ AllAre (IsPr H) vs qs
theorem IsPrs.mono {H H' : Hp} {v : V} {qs : List Rat} (h : IsPrs H v qs) (s : Same H H') : IsPrs H' v qs := by
  obtain ⟨p, vs, e, h, a⟩ := h
  exact ⟨p, vs, e, s _ _ h, a.imp fun _ _ r => r.mono s⟩
/-- tuples stay -/
def TS (H H' : Hp) : Prop := ∀ p xs, H p = some (.tup xs) → H' p = some (.tup xs)
theorem TS.rfl' {H : Hp} : TS H H := fun _ _ h => h
theorem TS.trans {H H1 H2 : Hp} (a : TS H H1) (b : TS H1 H2) : TS H H2 := fun p xs h => b p xs (a p xs h)
theorem TS.same {H H' : Hp} (s : Same H H') : TS H H' := fun p xs h => s p _ h
theorem TS.well {H H' : Hp} {a : Addr} {n : Nat} (w : WellAt H a n) (s : Same (hid a H) (hid a H')) : TS H H' := fun p xs h => hid_same _ _ (s p _ (hid_keep w h (fun _ => nofun)))
theorem TS.lst {H : Hp} {p : Addr} {ys : List V} {o : HO} (h : H p = some (.lst ys)) : TS H (upd H p o) := fun b xs e => by
  rw [upd_ne (fun z => by rw [z, h] at e; cases e)]
  exact e
theorem IsPr.ts {H H' : Hp} {v : V} {q : Rat} (h : IsPr H v q) (s : TS H H') : IsPr H' v q := by
  obtain ⟨p, e, h⟩ := h
  exact ⟨p, e, s _ _ h⟩
theorem IsTup2.ts {H H' : Hp} {v : V} {t b : Int} (h : IsTup2 H v t b) (s : TS H H') : IsTup2 H' v t b := by
  obtain ⟨p, e, h⟩ := h
  exact ⟨p, e, s _ _ h⟩
/-- a list of m pairs -/
def VecAt (H : Hp) (p : Addr) (m : Nat) (h : Nat → Rat) : Prop := ∃ vs, H p = some (.lst vs) ∧ vs.length = m ∧ ∀ (i : Nat) v, vs[i]? = some v → IsPr H v (h i)
theorem VecAt.ts {H H' : Hp} {p : Addr} {m : Nat} {h : Nat → Rat} (v : VecAt H p m h) (s : TS H H') (e : H' p = H p) : VecAt H' p m h := by
  obtain ⟨vs, ev, l, r⟩ := v
  exact ⟨vs, by rw [e]; exact ev, l, fun i v hv => (r i v hv).ts s⟩
theorem VecAt.at {H : Hp} {p : Addr} {m : Nat} {h : Nat → Rat} (v : VecAt H p m h) {j : Nat} (hj : j < m) : ∃ vs x, H p = some (.lst vs) ∧ vs.length = m ∧ vs[j]? = some x ∧ IsPr H x (h j) := by
  obtain ⟨vs, ev, l, r⟩ := v
  have hj' : j < vs.length := by omega
  exact ⟨vs, _, ev, l, List.getElem?_eq_getElem hj', r j _ (List.getElem?_eq_getElem hj')⟩
def put (h : Nat → Rat) (j : Nat) (z : Rat) : Nat → Rat := fun i => if i = j then z else h i
theorem VecAt.set {H : Hp} {p : Addr} {m : Nat} {h : Nat → Rat} {vs : List V} {j : Nat} {x : V} {z : Rat} (v : VecAt H p m h) (e : H p = some (.lst vs)) (hx : IsPr H x z) : VecAt (upd H p (.lst (vs.set j x))) p m (put h j z) := by
  obtain ⟨vs', ev, l, r⟩ := v
  rw [e] at ev
  cases ev
  have s : TS H (upd H p (.lst (vs.set j x))) := TS.lst e
  refine ⟨_, upd_same, by rw [List.length_set, l], fun i y hy => ?_⟩
  unfold put
  rw [List.getElem?_set] at hy
  by_cases hij : j = i
  · subst hij
    rw [if_pos rfl] at hy
    rw [if_pos rfl]
    split at hy
    · cases hy
      exact hx.ts s
    · cases hy
  · rw [if_neg hij] at hy
    rw [if_neg (fun z => hij z.symm)]
    exact (r i y hy).ts s
/-! ### sums over ranges -/
def rsumN (n : Nat) (f : Nat → Rat) : Rat := rsum ((List.range n).map f)
theorem rsumN_succ (n : Nat) (f : Nat → Rat) : rsumN (n + 1) f = rsumN n f + f n := by
  unfold rsumN
  rw [List.range_succ, List.map_append, rsum_append]
  show _ + (f n + 0) = _
  rw [Rat.add_zero]
theorem rsumN_congr {n : Nat} {f g : Nat → Rat} (h : ∀ i, i < n → f i = g i) : rsumN n f = rsumN n g := by
  induction n with
  | zero => rfl
  | succ n ih => rw [rsumN_succ, rsumN_succ, ih fun i hi => h i (by omega), h n (by omega)]
theorem rsumN_add (n : Nat) (f g : Nat → Rat) : rsumN n (fun i => f i + g i) = rsumN n f + rsumN n g := by
  induction n with
  | zero => exact (Rat.add_zero 0).symm
  | succ n ih => rw [rsumN_succ, rsumN_succ, rsumN_succ, ih]; grind
theorem rsumN_zero {n : Nat} {f : Nat → Rat} (h : ∀ i, i < n → f i = 0) : rsumN n f = 0 := by
  induction n with
  | zero => rfl
  | succ n ih => rw [rsumN_succ, ih fun i hi => h i (by omega), h n (by omega), Rat.add_zero]
theorem rsumN_nn {n : Nat} {f : Nat → Rat} (h : ∀ i, i < n → 0 ≤ f i) : 0 ≤ rsumN n f := by
  induction n with
  | zero => exact Rat.le_refl
  | succ n ih =>
    rw [rsumN_succ]
    have h1 := ih fun i hi => h i (by omega)
    have h2 := h n (by omega)
    grind
theorem rsumN_ge {n : Nat} {f : Nat → Rat} (h : ∀ i, i < n → 0 ≤ f i) {j : Nat} (hj : j < n) : f j ≤ rsumN n f := by
  induction n with
  | zero => omega
  | succ n ih =>
    rw [rsumN_succ]
    have h2 := h n (by omega)
    have h3 := rsumN_nn fun i (hi : i < n) => h i (by omega)
    by_cases e : j = n
    · subst e
      grind
    · have := ih (fun i hi => h i (by omega)) (by omega)
      grind
theorem rsumN_put {n : Nat} {f : Nat → Rat} {j : Nat} {z : Rat} (hj : j < n) : rsumN n (put f j z) = rsumN n f + (z - f j) := by
  induction n with
  | zero => omega
  | succ n ih =>
    rw [rsumN_succ, rsumN_succ]
    by_cases e : j = n
    · subst e
      rw [rsumN_congr (g := f) fun i hi => by unfold put; rw [if_neg (by omega)]]
      unfold put
      rw [if_pos rfl]
      grind
    · rw [ih (by omega)]
      have : put f j z n = f n := by unfold put; rw [if_neg (fun h => e h.symm)]
      rw [this]
      grind
theorem rsumN_put' {n : Nat} {f : Nat → Rat} {j : Nat} {z : Rat} (hj : n ≤ j) : rsumN n (put f j z) = rsumN n f :=
  rsumN_congr fun i hi => by unfold put; rw [if_neg (by omega)]
theorem rsumN_swap (m k : Nat) (T : Nat → Nat → Rat) : rsumN m (fun x => rsumN k (T x)) = rsumN k fun y => rsumN m fun x => T x y := by
  induction m with
  | zero => exact (rsumN_zero fun _ _ => rfl).symm
  | succ m ih =>
    rw [rsumN_succ, ih, ← rsumN_add]
    exact rsumN_congr fun i _ => (rsumN_succ m _).symm
/-! ### bottoms -/
theorem den_sub {a b : Rat} {S : Nat} (h0 : 0 < S) (ha : a.den ∣ S) (hb : b.den ∣ S) : (a - b).den ∣ S := by
  have e : a - b = Rat.divInt (a.num * ((S / a.den : Nat) : Int) + -(b.num * ((S / b.den : Nat) : Int))) (S : Int) := by
    rw [divInt_add_same, tops_one h0 ha, ← Rat.neg_divInt, tops_one h0 hb, Rat.sub_eq_add_neg]
  rw [e]
  exact den_dvd_bot h0
theorem bd_frac {q : Rat} {S : Nat} (q0 : 0 ≤ q) (q1 : q ≤ 1) (h0 : 0 < S) (hS : S ≤ 1000000) (hd : q.den ∣ S) : Bd 21 q := by
  have h1 : q.den ≤ S := Nat.le_of_dvd h0 hd
  have n0 : 0 ≤ q.num := Rat.num_nonneg.mpr q0
  have n1 : q.num ≤ (q.den : Int) := by
    have := (Rat.le_iff q 1).mp q1
    simpa using this
  exact ⟨by omega, by omega⟩
/-! ### filling -/
structure FillM (m k : Nat) (p q : Nat → Rat) (S : Nat) (h g : Nat → Rat) (T : Nat → Nat → Rat) (sp : List (Nat × Nat)) : Prop where
  row : ∀ x, x < m → h x + rsumN k (T x) = p x
  col : ∀ y, y < k → g y + rsumN m (fun x => T x y) = q y
  h0 : ∀ x, x < m → 0 ≤ h x ∧ h x ≤ 1 ∧ (h x).den ∣ S
  g0 : ∀ y, y < k → 0 ≤ g y ∧ g y ≤ 1 ∧ (g y).den ∣ S
  t0 : ∀ x y, x < m → y < k → 0 ≤ T x y ∧ T x y ≤ 1 ∧ (T x y).den ∣ S
  done : ∀ x y, x < m → y < k → (x, y) ∉ sp → h x = 0 ∨ g y = 0
  todo : ∀ xy ∈ sp, T xy.1 xy.2 = 0
  inb : ∀ xy ∈ sp, xy.1 < m ∧ xy.2 < k
  nd : sp.Nodup
def put2 (T : Nat → Nat → Rat) (x y : Nat) (z : Rat) : Nat → Nat → Rat := fun i => if i = x then put (T x) y z else T i
theorem FillM.step {m k : Nat} {p q : Nat → Rat} {S : Nat} {h g : Nat → Rat} {T : Nat → Nat → Rat} {sp : List (Nat × Nat)} (F : FillM m k p q S h g T sp) (hS : 0 < S) {c x y : Nat} (hc : sp[c]? = some (x, y)) {z : Rat} (hz : z = if g y < h x then g y else h x) :
    FillM m k p q S (put h x (h x - z)) (put g y (g y - z)) (put2 T x y z) (sp.eraseIdx c) := by
  have hm := List.mem_of_getElem? hc
  have hx : x < m := (F.inb _ hm).1
  have hy : y < k := (F.inb _ hm).2
  have t : T x y = 0 := F.todo _ hm
  obtain ⟨l1, l2, e1, e2⟩ : ∃ l1 l2, sp = l1 ++ (x, y) :: l2 ∧ sp.eraseIdx c = l1 ++ l2 := by
    have hl := (List.getElem?_eq_some_iff.mp hc).1
    refine ⟨sp.take c, sp.drop (c + 1), ?_, List.eraseIdx_eq_take_drop_succ ..⟩
    have := (List.getElem?_eq_some_iff.mp hc).2
    rw [← this, ← List.drop_eq_getElem_cons hl, List.take_append_drop]
  have nin : (x, y) ∉ sp.eraseIdx c := by
    have nd := F.nd
    rw [e1] at nd
    rw [e2]
    have := List.nodup_append.mp nd
    have h2 := List.nodup_cons.mp this.2.1
    intro hmem
    rcases List.mem_append.mp hmem with h | h
    · exact this.2.2 _ h _ List.mem_cons_self rfl
    · exact h2.1 h
  obtain ⟨hx0, hx1, hxd⟩ := F.h0 x hx
  obtain ⟨gy0, gy1, gyd⟩ := F.g0 y hy
  have z3 : 0 ≤ z ∧ z ≤ h x ∧ z ≤ g y ∧ z.den ∣ S ∧ (h x - z = 0 ∨ g y - z = 0) := by
    subst hz
    split
    · exact ⟨gy0, by grind, by grind, gyd, .inr (by grind)⟩
    · exact ⟨hx0, by grind, by grind, hxd, .inl (by grind)⟩
  obtain ⟨z0, zh, zg, zd, zz⟩ := z3
  refine ⟨fun i hi => ?_, fun j hj => ?_, fun i hi => ?_, fun j hj => ?_, fun i j hi hj => ?_, fun i j hi' hj hn => ?_, fun xy hxy => ?_, fun xy hxy => F.inb xy (List.mem_of_mem_eraseIdx hxy), F.nd.sublist (List.eraseIdx_sublist ..)⟩
  · have := F.row i hi
    by_cases e : i = x
    · subst e
      simp only [put, put2, if_true]
      rw [rsumN_put (f := T i) (z := z) hy, t]
      grind
    · simp only [put, put2, if_neg e]
      exact this
  · have := F.col j hj
    by_cases e : j = y
    · subst e
      have e2 : (fun i => put2 T x j z i j) = put (fun i => T i j) x z := by
        funext i
        by_cases e : i = x
        · subst e
          simp [put2, put]
        · simp [put2, put, e]
      rw [e2, rsumN_put hx]
      simp only [put, if_true]
      rw [t]
      grind
    · have e2 : (fun i => put2 T x y z i j) = fun i => T i j := by
        funext i
        by_cases e' : i = x
        · subst e'
          simp [put2, put, e]
        · simp [put2, e']
      rw [e2]
      simp only [put, if_neg e]
      exact this
  · by_cases e : i = x
    · subst e
      simp only [put, if_true]
      exact ⟨by grind, by grind, den_sub hS hxd zd⟩
    · simp only [put, if_neg e]
      exact F.h0 i hi
  · by_cases e : j = y
    · subst e
      simp only [put, if_true]
      exact ⟨by grind, by grind, den_sub hS gyd zd⟩
    · simp only [put, if_neg e]
      exact F.g0 j hj
  · by_cases e : i = x
    · subst e
      by_cases e' : j = y
      · subst e'
        simp only [put2, put, if_true]
        exact ⟨z0, by grind, zd⟩
      · simp only [put2, put, if_true, if_neg e']
        exact F.t0 i j hi hj
    · simp only [put2, if_neg e]
      exact F.t0 i j hi hj
  · by_cases e : (i, j) = (x, y)
    · cases e
      simp only [put, if_true]
      exact zz
    · have hn' : (i, j) ∉ sp := fun hmem => by
        refine hn ?_
        rw [e1] at hmem
        rw [e2]
        rcases List.mem_append.mp hmem with h | h
        · exact List.mem_append_left _ h
        · rcases List.mem_cons.mp h with h | h
          · exact absurd h e
          · exact List.mem_append_right _ h
      have := F.done i j hi' hj hn'
      simp only [put]
      split <;> split <;> grind
  · have hmem := List.mem_of_mem_eraseIdx hxy
    have t' := F.todo xy hmem
    have ne : xy ≠ (x, y) := fun e => nin (e ▸ hxy)
    obtain ⟨b, d⟩ := xy
    by_cases e : b = x
    · subst e
      have e' : d ≠ y := fun e' => ne (by rw [e'])
      simp only [put2, put, if_true, if_neg e']
      exact t'
    · simp only [put2, if_neg e]
      exact t'
theorem FillM.end_ {m k : Nat} {p q : Nat → Rat} {S : Nat} {h g : Nat → Rat} {T : Nat → Nat → Rat} (F : FillM m k p q S h g T []) (hp : rsumN m p = rsumN k q) : (∀ x, x < m → rsumN k (T x) = p x) ∧ ∀ y, y < k → rsumN m (fun x => T x y) = q y := by
  have e1 : rsumN m h + rsumN m (fun x => rsumN k (T x)) = rsumN m p := by
    rw [← rsumN_add]
    exact rsumN_congr F.row
  have e2 : rsumN k g + rsumN k (fun y => rsumN m fun x => T x y) = rsumN k q := by
    rw [← rsumN_add]
    exact rsumN_congr F.col
  rw [rsumN_swap] at e1
  have e3 : rsumN m h = rsumN k g := by grind
  have hz : (∀ x, x < m → h x = 0) ∧ ∀ y, y < k → g y = 0 := by
    by_cases hh : ∀ x, x < m → h x = 0
    · refine ⟨hh, fun y hy => ?_⟩
      have z := rsumN_zero hh
      have := rsumN_ge (fun i hi => (F.g0 i hi).1) hy
      have := (F.g0 y hy).1
      rw [← e3, z] at *
      grind
    · obtain ⟨x, hx⟩ := Classical.not_forall.mp hh
      obtain ⟨hx, hne⟩ := Classical.not_imp.mp hx
      have gz : ∀ y, y < k → g y = 0 := fun y hy => (F.done x y hx hy (by simp)).resolve_left hne
      refine ⟨fun i hi => ?_, gz⟩
      have z := rsumN_zero gz
      have := rsumN_ge (fun i hi => (F.h0 i hi).1) hi
      have := (F.h0 i hi).1
      rw [e3, z] at *
      grind
  exact ⟨fun x hx => by have := F.row x hx; rw [hz.1 x hx] at this; grind, fun y hy => by have := F.col y hy; rw [hz.2 y hy] at this; grind⟩
end Fb

/-! Part A12: the state of filling a plan, on the heap. -/
namespace Fb
open PySem PySem.Spec PyProof.Rows L2
theorem nodup_inj {α : Type} {l : List α} (nd : l.Nodup) {i j : Nat} {x : α} (hi : l[i]? = some x) (hj : l[j]? = some x) : i = j := by
  obtain ⟨i1, i2⟩ := List.getElem?_eq_some_iff.mp hi
  obtain ⟨j1, j2⟩ := List.getElem?_eq_some_iff.mp hj
  have p := List.pairwise_iff_getElem.mp nd
  rcases Nat.lt_trichotomy i j with h | h | h
  · exact absurd (i2.trans j2.symm) (p i j i1 j1 h)
  · exact h
  · exact absurd (j2.trans i2.symm) (p j i j1 i1 h)
structure FillAt (H0 : Hp) (a : Addr) (f m k : Nat) (ph pw pp ps : Addr) (rs : List Addr) (h g : Nat → Rat) (T : Nat → Nat → Rat) (sp : List (Nat × Nat)) (H : Hp) : Prop where
  same : Same (hid a H0) (hid a H)
  well : WellAt H a f
  new : ∀ p ∈ ph :: pw :: pp :: ps :: rs, H0 p = none ∧ p ≠ a
  dis : (ph :: pw :: pp :: ps :: rs).Nodup
  have_ : VecAt H ph m h
  want : VecAt H pw k g
  tab : H pp = some (.lst (rs.map V.ref))
  rlen : rs.length = m
  rows : ∀ (x : Nat) r, rs[x]? = some r → VecAt H r k (T x)
  spots : ∃ sv, H ps = some (.lst sv) ∧ AllAre (fun v (xy : Nat × Nat) => IsTup2 H v (xy.1 : Int) (xy.2 : Int)) sv sp
section
variable {H0 : Hp} {a : Addr} {f f' m k : Nat} {ph pw pp ps : Addr} {rs : List Addr} {h g : Nat → Rat} {T : Nat → Nat → Rat} {sp : List (Nat × Nat)} {H H' : Hp}
/-- tuples stay and the lists of filling stay -/
theorem FillAt.keep (F : FillAt H0 a f m k ph pw pp ps rs h g T sp H) (s : Same (hid a H) (hid a H')) (w : WellAt H' a f') : FillAt H0 a f' m k ph pw pp ps rs h g T sp H' := by
  have t := TS.well F.well s
  have e : ∀ p ∈ ph :: pw :: pp :: ps :: rs, ∀ o, H p = some o → H' p = some o := fun p hp o ho => by
    have := s p o (by rw [hid_ne (F.new p hp).2]; exact ho)
    rwa [hid_ne (F.new p hp).2] at this
  have v : ∀ p ∈ ph :: pw :: pp :: ps :: rs, ∀ n d, VecAt H p n d → VecAt H' p n d := fun p hp n d hv => by
    obtain ⟨vs, ev, l, r⟩ := hv
    exact ⟨vs, e p hp _ ev, l, fun i v hv => (r i v hv).ts t⟩
  refine ⟨F.same.trans s, w, F.new, F.dis, v _ (by simp) _ _ F.have_, v _ (by simp) _ _ F.want, e _ (by simp) _ F.tab, F.rlen, fun x r hr => v r ?_ _ _ (F.rows x r hr), ?_⟩
  · have := List.mem_of_getElem? hr
    simp [this]
  · obtain ⟨sv, es, as⟩ := F.spots
    exact ⟨sv, e _ (by simp) _ es, as.imp fun _ _ r => r.ts t⟩
/-- one of the lists of filling is set -/
theorem FillAt.upd_ (F : FillAt H0 a f m k ph pw pp ps rs h g T sp H) {p : Addr} {ys : List V} {o : HO} (hp : p ∈ ph :: pw :: pp :: ps :: rs) (e : H p = some (.lst ys)) :
    Same (hid a H0) (hid a (upd H p o)) ∧ WellAt (upd H p o) a f ∧ TS H (upd H p o) := by
  obtain ⟨n0, na⟩ := F.new p hp
  refine ⟨fun b u eb => ?_, F.well.upd na, TS.lst e⟩
  have hb : b ≠ p := fun z => by
    rw [z, hid_ne na, n0] at eb
    cases eb
  rw [hid_updN na, upd_ne hb]
  exact F.same b u eb
theorem FillAt.setH (F : FillAt H0 a f m k ph pw pp ps rs h g T sp H) {vs : List V} {j : Nat} {x : V} {z : Rat} (e : H ph = some (.lst vs)) (hx : IsPr H x z) : FillAt H0 a f m k ph pw pp ps rs (put h j z) g T sp (upd H ph (.lst (vs.set j x))) := by
  obtain ⟨s, w, t⟩ := F.upd_ (o := .lst (vs.set j x)) (by simp) e
  have d := List.nodup_cons.mp F.dis
  have ne : ∀ q ∈ pw :: pp :: ps :: rs, q ≠ ph := fun q hq z => d.1 (z ▸ hq)
  refine ⟨s, w, F.new, F.dis, F.have_.set e hx, F.want.ts t (upd_ne (ne _ (by simp))), by rw [upd_ne (ne _ (by simp))]; exact F.tab, F.rlen, fun x r hr => (F.rows x r hr).ts t (upd_ne (ne _ ?_)), ?_⟩
  · have := List.mem_of_getElem? hr
    simp [this]
  · obtain ⟨sv, es, as⟩ := F.spots
    exact ⟨sv, by rw [upd_ne (ne _ (by simp))]; exact es, as.imp fun _ _ r => r.ts t⟩
theorem FillAt.setW (F : FillAt H0 a f m k ph pw pp ps rs h g T sp H) {vs : List V} {j : Nat} {x : V} {z : Rat} (e : H pw = some (.lst vs)) (hx : IsPr H x z) : FillAt H0 a f m k ph pw pp ps rs h (put g j z) T sp (upd H pw (.lst (vs.set j x))) := by
  obtain ⟨s, w, t⟩ := F.upd_ (o := .lst (vs.set j x)) (by simp) e
  have d0 := List.nodup_cons.mp F.dis
  have d := List.nodup_cons.mp d0.2
  have ne : ∀ q ∈ pp :: ps :: rs, q ≠ pw := fun q hq z => d.1 (z ▸ hq)
  have ne0 : ph ≠ pw := fun z => d0.1 (by simp [z])
  refine ⟨s, w, F.new, F.dis, F.have_.ts t (upd_ne ne0), F.want.set e hx, by rw [upd_ne (ne _ (by simp))]; exact F.tab, F.rlen, fun x r hr => (F.rows x r hr).ts t (upd_ne (ne _ ?_)), ?_⟩
  · have := List.mem_of_getElem? hr
    simp [this]
  · obtain ⟨sv, es, as⟩ := F.spots
    exact ⟨sv, by rw [upd_ne (ne _ (by simp))]; exact es, as.imp fun _ _ r => r.ts t⟩
theorem FillAt.setR (F : FillAt H0 a f m k ph pw pp ps rs h g T sp H) {r : Addr} {vs : List V} {x y : Nat} {v : V} {z : Rat} (hr : rs[x]? = some r) (e : H r = some (.lst vs)) (hx : IsPr H v z) : FillAt H0 a f m k ph pw pp ps rs h g (put2 T x y z) sp (upd H r (.lst (vs.set y v))) := by
  have hm := List.mem_of_getElem? hr
  obtain ⟨s, w, t⟩ := F.upd_ (o := .lst (vs.set y v)) (by simp [hm]) e
  have d := F.dis
  simp only [List.nodup_cons, List.mem_cons, not_or] at d
  have n1 : ph ≠ r := fun z => d.1.2.2.2 (z ▸ hm)
  have n2 : pw ≠ r := fun z => d.2.1.2.2 (z ▸ hm)
  have n3 : pp ≠ r := fun z => d.2.2.1.2 (z ▸ hm)
  have n4 : ps ≠ r := fun z => d.2.2.2.1 (z ▸ hm)
  refine ⟨s, w, F.new, F.dis, F.have_.ts t (upd_ne n1), F.want.ts t (upd_ne n2), by rw [upd_ne n3]; exact F.tab, F.rlen, fun x' r' hr' => ?_, ?_⟩
  · by_cases ex : x' = x
    · subst ex
      rw [hr] at hr'
      cases hr'
      have := (F.rows x' r hr).set (j := y) e hx
      simpa [put2] using this
    · have hne : r' ≠ r := fun z => by
        have nd := d.2.2.2.2
        exact ex (nodup_inj nd hr' (z ▸ hr))
      simp only [put2, if_neg ex]
      exact (F.rows x' r' hr').ts t (upd_ne hne)
  · obtain ⟨sv, es, as⟩ := F.spots
    exact ⟨sv, by rw [upd_ne n4]; exact es, as.imp fun _ _ r => r.ts t⟩
theorem AllAre.erase {α : Type} {R : V → α → Prop} {vs : List V} {xs : List α} (h : AllAre R vs xs) (n : Nat) : AllAre R (vs.eraseIdx n) (xs.eraseIdx n) := by
  rw [List.eraseIdx_eq_take_drop_succ, List.eraseIdx_eq_take_drop_succ]
  exact (h.take n).append (h.drop (n + 1))
theorem FillAt.pop (F : FillAt H0 a f m k ph pw pp ps rs h g T sp H) {sv : List V} {j : Nat} (e : H ps = some (.lst sv)) : FillAt H0 a f m k ph pw pp ps rs h g T (sp.eraseIdx j) (upd H ps (.lst (sv.eraseIdx j))) := by
  obtain ⟨s, w, t⟩ := F.upd_ (o := .lst (sv.eraseIdx j)) (by simp) e
  have d := F.dis
  simp only [List.nodup_cons, List.mem_cons, not_or] at d
  have n1 : ph ≠ ps := d.1.2.2.1
  have n2 : pw ≠ ps := d.2.1.2.1
  have n3 : pp ≠ ps := d.2.2.1.1
  refine ⟨s, w, F.new, F.dis, F.have_.ts t (upd_ne n1), F.want.ts t (upd_ne n2), by rw [upd_ne n3]; exact F.tab, F.rlen, fun x' r' hr' => (F.rows x' r' hr').ts t (upd_ne fun z => d.2.2.2.1 (z ▸ List.mem_of_getElem? hr')), ?_⟩
  obtain ⟨sv', es, as⟩ := F.spots
  rw [e] at es
  cases es
  exact ⟨_, upd_same, (as.erase j).imp fun _ _ r => r.ts t⟩
end
/-- the plan that is told -/
structure PlanOk (m k : Nat) (p q : Nat → Rat) (T : Nat → Nat → Rat) : Prop where
  row : ∀ x, x < m → rsumN k (T x) = p x
  col : ∀ y, y < k → rsumN m (fun x => T x y) = q y
  t0 : ∀ x y, x < m → y < k → 0 ≤ T x y ∧ Bd 21 (T x y)
  den : ∃ S : Nat, 0 < S ∧ S ≤ 1000000 ∧ ∀ x y, x < m → y < k → T x y ≤ 1 ∧ (T x y).den ∣ S
end Fb

/-! Part A13: comprehensions that make rows; lists and functions. -/
namespace Fb
open PySem PySem.Spec PyProof.Rows L2
theorem pi_listK {X : Cx} {K : PySem.W.Frag} {tg l : Expr} {tl : TE} (hK : X.K = K) (hl : PE X l tl) : PI X tg l (iList K tl) := hK ▸ pi_list hl
theorem VecAt.same {H H' : Hp} {p : Addr} {m : Nat} {h : Nat → Rat} (v : VecAt H p m h) (s : Same H H') : VecAt H' p m h := by
  obtain ⟨vs, ev, l, r⟩ := v
  exact ⟨vs, s _ _ ev, l, fun i v hv => (r i v hv).mono s⟩
theorem lc_rows {K : PySem.W.Frag} {a : Addr} {xs : List V} {g : TG} {te : TE} {vs : List Nat} {σ : L2.St} {H1 : Hp} {D : Addr} {Qd : Hp → Prop} (k : Nat) (f : Nat → Rat)
    (hD : H1 D = none) (hS : SqL K H1 a xs) (hz : xs.length ≤ 1000)
    (hs : ∀ (i : Nat) x H (kk : V → Hp → Prop), xs[i]? = some x → Same H1 H → (∀ r H4, H r = none → Same H H4 → VecAt H4 r k f → kk (.ref r) H4) → g x (wipe σ vs) H fun σ2 H2 => wipe σ2 vs = wipe σ vs ∧ te σ2 H2 kk)
    (hd : ∀ H rs, Same H1 (hid D H) → H D = some (.lst (rs.map V.ref)) → rs.length = xs.length → (D :: rs).Nodup → (∀ r ∈ rs, H1 r = none ∧ VecAt H r k f) → Qd H) :
    ∃ W : Nat → Nat → Hp → Prop, (∃ m, W 0 m (upd H1 D (.lst []))) ∧ ∀ i m H, W i m H →
      ((Itl K a).stop i H ∧ Qd H) ∨ ((Itl K a).go i H ∧ ∃ Nx : Hp → Prop, (∀ H', Nx H' → ∃ m', m' < m ∧ W (i + 1) m' H') ∧ ∀ x H', (Itl K a).yld i H x H' → g x (wipe σ vs) H' fun σ2 H2 => wipe σ2 vs = wipe σ vs ∧ tYes σ2 H2 fun b H3 =>
        if b = true then te σ2 H3 fun y H4 => ∃ acc, H4 D = some (.lst acc) ∧ acc.length < sizeLine ∧ Nx (upd H4 D (.lst (acc ++ [y]))) else Nx H3) := by
  refine lc_list (xs := xs) (fun i H => ∃ rs : List Addr, Same H1 (hid D H) ∧ H D = some (.lst (rs.map V.ref)) ∧ rs.length = i ∧ (D :: rs).Nodup ∧ ∀ r ∈ rs, H1 r = none ∧ VecAt H r k f) ⟨[], ?_, upd_same, rfl, by simp, fun r h => by simp at h⟩ (fun i H _ h => ?_) (fun i x H hx h => ?_) (fun H h => ?_)
  · intro b o e
    rw [hid_ne (ne_of_none e hD), upd_ne (ne_of_none e hD)]
    exact e
  · obtain ⟨rs, s, _⟩ := h
    exact (s.trans hid_same).seq hS
  · obtain ⟨rs, s, e, l, nd, r⟩ := h
    have hi : i < xs.length := (List.getElem?_eq_some_iff.mp hx).1
    refine hs i x H (fun y H4 => ∃ acc, H4 D = some (.lst acc) ∧ acc.length < sizeLine ∧ ∃ rs : List Addr, Same H1 (hid D (upd H4 D (.lst (acc ++ [y])))) ∧ (upd H4 D (.lst (acc ++ [y]))) D = some (.lst (rs.map V.ref)) ∧ rs.length = i + 1 ∧ (D :: rs).Nodup ∧ ∀ r ∈ rs, H1 r = none ∧ VecAt (upd H4 D (.lst (acc ++ [y]))) r k f) hx (s.trans hid_same) fun q H4 nq s4 vq => ?_
    have e4 := s4 _ _ e
    have qD : q ≠ D := fun z => by rw [z, e] at nq; cases nq
    have up : ∀ r', r' ≠ D → VecAt H4 r' k f → VecAt (upd H4 D (.lst (rs.map V.ref ++ [.ref q]))) r' k f := fun r' hr v => v.ts (TS.lst e4) (upd_ne hr)
    refine ⟨_, e4, small1000 (by rw [List.length_map]; omega), rs ++ [q], ?_, by rw [upd_same]; simp, by simp [l], ?_, fun r' hr' => ?_⟩
    · rw [hid_upd]
      exact s.trans (hid_mono s4)
    · have n1 := List.nodup_cons.mp nd
      refine List.nodup_cons.mpr ⟨?_, ?_⟩
      · simp only [List.mem_append, List.mem_singleton, not_or]
        exact ⟨n1.1, fun z => qD z.symm⟩
      · refine List.nodup_append.mpr ⟨n1.2, by simp, fun x hx y hy => ?_⟩
        have : y = q := by simpa using hy
        subst this
        intro z
        obtain ⟨vs', ev, _⟩ := (r x hx).2
        rw [z, nq] at ev
        cases ev
    · rcases List.mem_append.mp hr' with h | h
      · have n1 := List.nodup_cons.mp nd
        exact ⟨(r r' h).1, up r' (fun z => n1.1 (z ▸ h)) ((r r' h).2.same s4)⟩
      · have : r' = q := by simpa using h
        subst this
        refine ⟨?_, up _ qD vq⟩
        cases e' : H1 r' with
        | none => rfl
        | some o =>
          have := hid_same _ _ (s _ _ e')
          rw [nq] at this
          cases this
  · obtain ⟨rs, s, e, l, nd, r⟩ := h
    exact hd H rs s e l nd r
/-- [e for x in range(..)] that only makes -/
theorem lc_allR {lo : Int} {n : Nat} {g : TG} {te : TE} {vs : List Nat} {σ : L2.St} {H1 : Hp} {D : Addr} {Qd : Hp → Prop} (R : Nat → V → Hp → Prop) (mono : ∀ i v H H', Same H H' → R i v H → R i v H')
    (hD : H1 D = none) (hz : n ≤ 1000)
    (hs : ∀ i H (k : V → Hp → Prop), i < n → Same H1 (hid D H) → (∃ ys, H D = some (.lst ys)) → (∀ y H4, Same H H4 → R i y (hid D H4) → k y H4) → g (.int (lo + i)) (wipe σ vs) H fun σ2 H2 => wipe σ2 vs = wipe σ vs ∧ te σ2 H2 k)
    (hd : ∀ H ys, Same H1 (hid D H) → H D = some (.lst ys) → ys.length = n → (∀ i y, ys[i]? = some y → R i y (hid D H)) → Qd H) :
    ∃ W : Nat → Nat → Hp → Prop, (∃ m, W 0 m (upd H1 D (.lst []))) ∧ ∀ i m H, W i m H →
      ((Itr lo n).stop i H ∧ Qd H) ∨ ((Itr lo n).go i H ∧ ∃ Nx : Hp → Prop, (∀ H', Nx H' → ∃ m', m' < m ∧ W (i + 1) m' H') ∧ ∀ x H', (Itr lo n).yld i H x H' → g x (wipe σ vs) H' fun σ2 H2 => wipe σ2 vs = wipe σ vs ∧ tYes σ2 H2 fun b H3 =>
        if b = true then te σ2 H3 fun y H4 => ∃ acc, H4 D = some (.lst acc) ∧ acc.length < sizeLine ∧ Nx (upd H4 D (.lst (acc ++ [y]))) else Nx H3) := by
  refine lc_range (fun i H => ∃ ys, Same H1 (hid D H) ∧ H D = some (.lst ys) ∧ ys.length = i ∧ ∀ j y, ys[j]? = some y → R j y (hid D H)) ⟨[], ?_, upd_same, rfl, fun j y h => by simp at h⟩ (fun i H hi h => ?_) (fun H h => ?_)
  · intro b o e
    rw [hid_ne (ne_of_none e hD), upd_ne (ne_of_none e hD)]
    exact e
  · obtain ⟨ys, s, e, l, r⟩ := h
    refine hs i H (fun y H4 => ∃ acc, H4 D = some (.lst acc) ∧ acc.length < sizeLine ∧ ∃ ys, Same H1 (hid D (upd H4 D (.lst (acc ++ [y])))) ∧ (upd H4 D (.lst (acc ++ [y]))) D = some (.lst ys) ∧ ys.length = i + 1 ∧ ∀ j y', ys[j]? = some y' → R j y' (hid D (upd H4 D (.lst (acc ++ [y]))))) hi s ⟨_, e⟩ fun y H4 s4 ry => ?_
    refine ⟨ys, s4 _ _ e, small1000 (by omega), ys ++ [y], ?_, upd_same, by simp [l], fun j y' h => ?_⟩
    · rw [hid_upd]
      exact s.trans (hid_mono s4)
    · rw [hid_upd]
      by_cases hj : j < ys.length
      · rw [List.getElem?_append_left hj] at h
        exact mono _ _ _ _ (hid_mono s4) (r j y' h)
      · rw [List.getElem?_append_right (by omega)] at h
        have hj2 : j - ys.length = 0 := by
          have := (List.getElem?_eq_some_iff.mp h).1
          simp at this
          omega
        rw [hj2] at h
        simp at h
        subst h
        have : j = i := by omega
        rw [this]
        exact ry
  · obtain ⟨ys, s, e, l, r⟩ := h
    exact hd H ys s e l r
/-! ### lists and functions -/
def at0 (l : List Rat) (i : Nat) : Rat := l.getD i 0
theorem at0_of {l : List Rat} {i : Nat} {z : Rat} (h : l[i]? = some z) : at0 l i = z := by
  unfold at0
  rw [List.getD_eq_getElem?_getD, h]
  rfl
theorem at0_mem {l : List Rat} {i : Nat} (h : i < l.length) : at0 l i ∈ l := by
  rw [at0_of (List.getElem?_eq_getElem h)]
  exact List.getElem_mem h
theorem rsumN_at0 (l : List Rat) : rsumN l.length (at0 l) = rsum l := by
  unfold rsumN
  congr 1
  refine List.ext_getElem (by simp) fun i h1 h2 => ?_
  simp only [List.getElem_map, List.getElem_range]
  exact at0_of (List.getElem?_eq_getElem h2)
theorem IsPrs.vec {H : Hp} {p : Addr} {qs : List Rat} (h : IsPrs H (.ref p) qs) : VecAt H p qs.length (at0 qs) := by
  obtain ⟨p', vs, e, h, a⟩ := h
  cases e
  refine ⟨vs, h, a.1, fun i v hv => ?_⟩
  obtain ⟨z, hz, r⟩ := a.at hv
  rw [at0_of hz]
  exact r
theorem VecAt.prs {H : Hp} {p : Addr} {m : Nat} {f : Nat → Rat} (v : VecAt H p m f) : IsPrs H (.ref p) ((List.range m).map f) := by
  obtain ⟨vs, e, l, r⟩ := v
  refine ⟨p, vs, rfl, e, .of_ix (by simp [l]) fun i y hy => ⟨f i, ?_, r i y hy⟩⟩
  have hi := (List.getElem?_eq_some_iff.mp hy).1
  rw [List.getElem?_map, List.getElem?_range (by omega)]
  rfl
/-- the spots of filling, row by row -/
def spotsTo (k : Nat) : Nat → List (Nat × Nat)
  | 0 => []
  | x + 1 => spotsTo k x ++ (List.range k).map fun y => (x, y)
theorem spotsTo_len (k : Nat) : ∀ m, (spotsTo k m).length = m * k
  | 0 => by simp [spotsTo]
  | m + 1 => by
    rw [spotsTo, List.length_append, spotsTo_len k m, List.length_map, List.length_range, Nat.succ_mul]
theorem spotsTo_mem {k x y : Nat} : ∀ {m : Nat}, (x, y) ∈ spotsTo k m ↔ x < m ∧ y < k
  | 0 => by simp [spotsTo]
  | m + 1 => by
    rw [spotsTo, List.mem_append, spotsTo_mem, List.mem_map]
    simp only [List.mem_range, Prod.mk.injEq]
    constructor
    · rintro (h | ⟨y', h1, h2, h3⟩)
      · omega
      · omega
    · intro h
      by_cases e : x < m
      · exact .inl ⟨e, h.2⟩
      · exact .inr ⟨y, h.2, by omega, rfl⟩
theorem spotsTo_nodup (k : Nat) : ∀ m, (spotsTo k m).Nodup
  | 0 => by simp [spotsTo]
  | m + 1 => by
    rw [spotsTo]
    refine List.nodup_append.mpr ⟨spotsTo_nodup k m, ?_, fun a ha b hb => ?_⟩
    · refine List.pairwise_map.mpr (List.Pairwise.imp (fun h z => h ?_) List.nodup_range)
      simpa using z
    · obtain ⟨x, y⟩ := a
      have h1 := spotsTo_mem.mp ha
      obtain ⟨y', _, rfl⟩ := List.mem_map.mp hb
      intro z
      cases z
      omega
theorem heap_le1 {l : List Rat} (h : HeapOk l) {q : Rat} (hq : q ∈ l) : q ≤ 1 := by
  obtain ⟨i, hi, e⟩ := List.mem_iff_getElem.mp hq
  have := rsumN_ge (n := l.length) (f := at0 l) (fun j hj => h.nn _ (at0_mem hj)) hi
  rw [rsumN_at0, h.one, at0_of (List.getElem?_eq_getElem hi), e] at this
  exact this
theorem FillM.start {pl ql : List Rat} (hp : HeapOk pl) (hq : HeapOk ql) : ∃ S : Nat, 0 < S ∧ S ≤ 1000000 ∧ FillM pl.length ql.length (at0 pl) (at0 ql) S (at0 pl) (at0 ql) (fun _ _ => 0) (spotsTo ql.length pl.length) := by
  obtain ⟨S1, a1, a2, a3⟩ := hp.den
  obtain ⟨S2, b1, b2, b3⟩ := hq.den
  refine ⟨S1 * S2, Nat.mul_pos a1 b1, Nat.mul_le_mul a2 b2, fun x _ => ?_, fun y _ => ?_, fun x hx => ?_, fun y hy => ?_, fun _ _ _ _ => ?_, fun x y hx hy hn => absurd (spotsTo_mem.mpr ⟨hx, hy⟩) hn, fun _ _ => rfl, fun xy h => spotsTo_mem.mp h, spotsTo_nodup _ _⟩
  · rw [rsumN_zero fun _ _ => rfl, Rat.add_zero]
  · rw [rsumN_zero fun _ _ => rfl, Rat.add_zero]
  · have := at0_mem hx
    exact ⟨hp.nn _ this, heap_le1 hp this, Nat.dvd_trans (a3 _ this) (Nat.dvd_mul_right _ _)⟩
  · have := at0_mem hy
    exact ⟨hq.nn _ this, heap_le1 hq this, Nat.dvd_trans (b3 _ this) (Nat.dvd_mul_left _ _)⟩
  · exact ⟨Rat.le_refl, by decide, Nat.one_dvd _⟩
theorem FillAt.ext {H0 : Hp} {a : Addr} {f m k : Nat} {ph pw pp ps : Addr} {rs : List Addr} {h g : Nat → Rat} {T : Nat → Nat → Rat} {sp more : List (Nat × Nat)} {H : Hp} (F : FillAt H0 a f m k ph pw pp ps rs h g T sp H) {sv ys : List V} (e : H ps = some (.lst sv)) (hy : AllAre (fun v (xy : Nat × Nat) => IsTup2 H v (xy.1 : Int) (xy.2 : Int)) ys more) :
    FillAt H0 a f m k ph pw pp ps rs h g T (sp ++ more) (upd H ps (.lst (sv ++ ys))) := by
  obtain ⟨s, w, t⟩ := F.upd_ (o := .lst (sv ++ ys)) (by simp) e
  have d := F.dis
  simp only [List.nodup_cons, List.mem_cons, not_or] at d
  have n1 : ph ≠ ps := d.1.2.2.1
  have n2 : pw ≠ ps := d.2.1.2.1
  have n3 : pp ≠ ps := d.2.2.1.1
  refine ⟨s, w, F.new, F.dis, F.have_.ts t (upd_ne n1), F.want.ts t (upd_ne n2), by rw [upd_ne n3]; exact F.tab, F.rlen, fun x' r' hr' => (F.rows x' r' hr').ts t (upd_ne fun z => d.2.2.2.1 (z ▸ List.mem_of_getElem? hr')), ?_⟩
  obtain ⟨sv', es, as⟩ := F.spots
  rw [e] at es
  cases es
  exact ⟨_, upd_same, (as.append hy).imp fun _ _ r => r.ts t⟩
end Fb

/-! Part A14: filters of lists, suites with one end. -/
namespace Fb
open PySem PySem.Spec PyProof.Rows L2
theorem seq_fin {t u : L2.TS} {D : Ends} {σ : L2.St} {H : Hp} (M : L2.St → Hp → Prop) (h2 : ∀ σ H, M σ H → u D σ H) (h1 : (∀ σ H, M σ H → u D σ H) → t { D with nx := u D } σ H) : tSeq t u D σ H := h1 h2
/-- [e for x in xs if ..]: whether something is left -/
theorem lc_some {K : PySem.W.Frag} {a : Addr} {xs : List V} {g : TG} {tt : TT} {te : TE} {vs : List Nat} {σ : L2.St} {H1 : Hp} {D : Addr} {Qd : Hp → Prop} (t : Nat → Bool)
    (hD : H1 D = none) (hS : SqL K H1 a xs) (hz : xs.length ≤ 1000)
    (hs : ∀ (i : Nat) x H (kt : V → Hp → Prop) (kf : Hp → Prop), xs[i]? = some x → Same H1 H → (t i = true → ∀ y H4, Same H H4 → kt y H4) → (t i = false → ∀ H4, Same H H4 → kf H4) →
      g x (wipe σ vs) H fun σ2 H2 => wipe σ2 vs = wipe σ vs ∧ tt σ2 H2 fun b H3 => if b = true then te σ2 H3 kt else kf H3)
    (hd : ∀ H ys, Same H1 (hid D H) → H D = some (.lst ys) → ys.isEmpty = (List.range xs.length).all (fun i => !t i) → Qd H) :
    ∃ W : Nat → Nat → Hp → Prop, (∃ m, W 0 m (upd H1 D (.lst []))) ∧ ∀ i m H, W i m H →
      ((Itl K a).stop i H ∧ Qd H) ∨ ((Itl K a).go i H ∧ ∃ Nx : Hp → Prop, (∀ H', Nx H' → ∃ m', m' < m ∧ W (i + 1) m' H') ∧ ∀ x H', (Itl K a).yld i H x H' → g x (wipe σ vs) H' fun σ2 H2 => wipe σ2 vs = wipe σ vs ∧ tt σ2 H2 fun b H3 =>
        if b = true then te σ2 H3 fun y H4 => ∃ acc, H4 D = some (.lst acc) ∧ acc.length < sizeLine ∧ Nx (upd H4 D (.lst (acc ++ [y]))) else Nx H3) := by
  have ra : ∀ i, (List.range (i + 1)).all (fun i => !t i) = ((List.range i).all (fun i => !t i) && !t i) := fun i => by
    rw [List.range_succ, List.all_append]
    simp
  refine lc_list (xs := xs) (fun i H => ∃ ys, Same H1 (hid D H) ∧ H D = some (.lst ys) ∧ ys.length ≤ i ∧ ys.isEmpty = (List.range i).all (fun i => !t i)) ⟨[], ?_, upd_same, Nat.zero_le _, rfl⟩ (fun i H _ h => ?_) (fun i x H hx h => ?_) (fun H h => ?_)
  · intro b o e
    rw [hid_ne (ne_of_none e hD), upd_ne (ne_of_none e hD)]
    exact e
  · obtain ⟨ys, s, _⟩ := h
    exact (s.trans hid_same).seq hS
  · obtain ⟨ys, s, e, l, r⟩ := h
    have hi : i < xs.length := (List.getElem?_eq_some_iff.mp hx).1
    refine hs i x H (fun y H4 => ∃ acc, H4 D = some (.lst acc) ∧ acc.length < sizeLine ∧ ∃ ys, Same H1 (hid D (upd H4 D (.lst (acc ++ [y])))) ∧ (upd H4 D (.lst (acc ++ [y]))) D = some (.lst ys) ∧ ys.length ≤ i + 1 ∧ ys.isEmpty = (List.range (i + 1)).all (fun i => !t i)) _ hx (s.trans hid_same) (fun ht y H4 s4 => ?_) (fun ht H4 s4 => ?_)
    · refine ⟨ys, s4 _ _ e, small1000 (by omega), ys ++ [y], ?_, upd_same, by simp; omega, ?_⟩
      · rw [hid_upd]
        exact s.trans (hid_mono s4)
      · rw [ra, ht]
        simp
    · refine ⟨ys, s.trans (hid_mono s4), s4 _ _ e, by omega, ?_⟩
      rw [ra, ht, r]
      simp
  · obtain ⟨ys, s, e, l, r⟩ := h
    exact hd H ys s e r
end Fb

/-! Part A15: comprehensions over any walk, of one and of two clauses; sums of products. -/
namespace Fb
open PySem PySem.Spec PyProof.Rows L2
section
variable {X : Cx} {K : PySem.W.Frag}
theorem pi_enumK {e : Expr} {ta : TA} {p pos tpos : Pos} {elts : List Expr} {kk : Nat} (hK : X.K = K) (hg : Gl X "enumerate") (hm : X.mg "enumerate" = none) (ha : PA X [e] ta) (hs : starEach [e] X.env = [(false, eval e X.env)] := by rfl) :
    PI X (.Tuple elts kk tpos) (.Call (.Name "enumerate" p) [e] [] pos) (iEnum K ta) := hK ▸ pi_enum hg hm ha hs
theorem pi_zipK {e e2 : Expr} {ta : TA} {p pos tpos : Pos} {elts : List Expr} {kk : Nat} (hK : X.K = K) (hg : Gl X "zip") (hm : X.mg "zip" = none) (ha : PA X [e, e2] ta)
    (hs : starEach [e, e2] X.env = (false, eval e X.env) :: starEach [e2] X.env := by rfl) (hpl : (backTo pos (starEach [e2] X.env)).any (·.1) = false := by rfl) :
    PI X (.Tuple elts kk tpos) (.Call (.Name "zip" p) [e, e2] [] pos) (iZip K ta) := hK ▸ pi_zip hg hm ha hs hpl
theorem pi_tupK {tg l : Expr} {tl : TE} (hK : X.K = K) (hl : PE X l tl) : PI X tg l (iTup K tl) := hK ▸ pi_tup hl
end
section
variable {J : It} {n : Nat} {G : Hp → Prop} {Y : Nat → Hp → V → Hp → Prop}
/-- [e for .. in ..] that only makes, over any walk -/
theorem lc_allW (w : Walk J n G Y) {g : TG} {te : TE} {vs : List Nat} {σ : L2.St} {H1 : Hp} {D : Addr} {Qd : Hp → Prop} (R : Nat → V → Hp → Prop) (mono : ∀ i v H H', Same H H' → R i v H → R i v H')
    (hD : H1 D = none) (hS : ∀ H, Same H1 H → G H) (hz : n ≤ 1000)
    (hs : ∀ i x H H' (k : V → Hp → Prop), i < n → Same H1 (hid D H) → (∃ ys, H D = some (.lst ys)) → Y i H x H' → (∀ y H4, Same H H4 → R i y (hid D H4) → k y H4) → g x (wipe σ vs) H' fun σ2 H2 => wipe σ2 vs = wipe σ vs ∧ te σ2 H2 k)
    (hd : ∀ H ys, Same H1 (hid D H) → H D = some (.lst ys) → ys.length = n → (∀ i y, ys[i]? = some y → R i y (hid D H)) → Qd H) :
    ∃ W : Nat → Nat → Hp → Prop, (∃ m, W 0 m (upd H1 D (.lst []))) ∧ ∀ i m H, W i m H →
      (J.stop i H ∧ Qd H) ∨ (J.go i H ∧ ∃ Nx : Hp → Prop, (∀ H', Nx H' → ∃ m', m' < m ∧ W (i + 1) m' H') ∧ ∀ x H', J.yld i H x H' → g x (wipe σ vs) H' fun σ2 H2 => wipe σ2 vs = wipe σ vs ∧ tYes σ2 H2 fun b H3 =>
        if b = true then te σ2 H3 fun y H4 => ∃ acc, H4 D = some (.lst acc) ∧ acc.length < sizeLine ∧ Nx (upd H4 D (.lst (acc ++ [y]))) else Nx H3) := by
  refine lc_it w (fun i H => ∃ ys, Same H1 (hid D H) ∧ H D = some (.lst ys) ∧ ys.length = i ∧ ∀ j y, ys[j]? = some y → R j y (hid D H)) ⟨[], ?_, upd_same, rfl, fun j y h => by simp at h⟩ (fun i H _ h => ?_) (fun i x H H' hi h y => ?_) (fun H h => ?_)
  · intro b o e
    rw [hid_ne (ne_of_none e hD), upd_ne (ne_of_none e hD)]
    exact e
  · obtain ⟨ys, s, _⟩ := h
    exact hS H (s.trans hid_same)
  · obtain ⟨ys, s, e, l, r⟩ := h
    refine hs i x H H' (fun y H4 => ∃ acc, H4 D = some (.lst acc) ∧ acc.length < sizeLine ∧ ∃ ys, Same H1 (hid D (upd H4 D (.lst (acc ++ [y])))) ∧ (upd H4 D (.lst (acc ++ [y]))) D = some (.lst ys) ∧ ys.length = i + 1 ∧ ∀ j y', ys[j]? = some y' → R j y' (hid D (upd H4 D (.lst (acc ++ [y]))))) hi s ⟨_, e⟩ y fun y H4 s4 ry => ?_
    refine ⟨ys, s4 _ _ e, small1000 (by omega), ys ++ [y], ?_, upd_same, by simp [l], fun j y' h => ?_⟩
    · rw [hid_upd]
      exact s.trans (hid_mono s4)
    · rw [hid_upd]
      by_cases hj : j < ys.length
      · rw [List.getElem?_append_left hj] at h
        exact mono _ _ _ _ (hid_mono s4) (r j y' h)
      · rw [List.getElem?_append_right (by omega)] at h
        have hj2 : j - ys.length = 0 := by
          have := (List.getElem?_eq_some_iff.mp h).1
          simp at this
          omega
        rw [hj2] at h
        simp at h
        subst h
        have : j = i := by omega
        rw [this]
        exact ry
  · obtain ⟨ys, s, e, l, r⟩ := h
    exact hd H ys s e l r
/-- [e for .. in .. if ..] over any walk: whether something is left -/
theorem lc_someW (w : Walk J n G Y) {g : TG} {tt : TT} {te : TE} {vs : List Nat} {σ : L2.St} {H1 : Hp} {D : Addr} {Qd : Hp → Prop} (t : Nat → Bool)
    (hD : H1 D = none) (hS : ∀ H, Same H1 H → G H) (hz : n ≤ 1000)
    (hs : ∀ (i : Nat) x H H' (kt : V → Hp → Prop) (kf : Hp → Prop), i < n → Same H1 H → Y i H x H' → (t i = true → ∀ y H4, Same H H4 → kt y H4) → (t i = false → ∀ H4, Same H H4 → kf H4) →
      g x (wipe σ vs) H' fun σ2 H2 => wipe σ2 vs = wipe σ vs ∧ tt σ2 H2 fun b H3 => if b = true then te σ2 H3 kt else kf H3)
    (hd : ∀ H ys, Same H1 (hid D H) → H D = some (.lst ys) → ys.isEmpty = (List.range n).all (fun i => !t i) → Qd H) :
    ∃ W : Nat → Nat → Hp → Prop, (∃ m, W 0 m (upd H1 D (.lst []))) ∧ ∀ i m H, W i m H →
      (J.stop i H ∧ Qd H) ∨ (J.go i H ∧ ∃ Nx : Hp → Prop, (∀ H', Nx H' → ∃ m', m' < m ∧ W (i + 1) m' H') ∧ ∀ x H', J.yld i H x H' → g x (wipe σ vs) H' fun σ2 H2 => wipe σ2 vs = wipe σ vs ∧ tt σ2 H2 fun b H3 =>
        if b = true then te σ2 H3 fun y H4 => ∃ acc, H4 D = some (.lst acc) ∧ acc.length < sizeLine ∧ Nx (upd H4 D (.lst (acc ++ [y]))) else Nx H3) := by
  have ra : ∀ i, (List.range (i + 1)).all (fun i => !t i) = ((List.range i).all (fun i => !t i) && !t i) := fun i => by
    rw [List.range_succ, List.all_append]
    simp
  refine lc_it w (fun i H => ∃ ys, Same H1 (hid D H) ∧ H D = some (.lst ys) ∧ ys.length ≤ i ∧ ys.isEmpty = (List.range i).all (fun i => !t i)) ⟨[], ?_, upd_same, Nat.zero_le _, rfl⟩ (fun i H _ h => ?_) (fun i x H H' hi h y => ?_) (fun H h => ?_)
  · intro b o e
    rw [hid_ne (ne_of_none e hD), upd_ne (ne_of_none e hD)]
    exact e
  · obtain ⟨ys, s, _⟩ := h
    exact hS H (s.trans hid_same)
  · obtain ⟨ys, s, e, l, r⟩ := h
    refine hs i x H H' (fun y H4 => ∃ acc, H4 D = some (.lst acc) ∧ acc.length < sizeLine ∧ ∃ ys, Same H1 (hid D (upd H4 D (.lst (acc ++ [y])))) ∧ (upd H4 D (.lst (acc ++ [y]))) D = some (.lst ys) ∧ ys.length ≤ i + 1 ∧ ys.isEmpty = (List.range (i + 1)).all (fun i => !t i)) _ hi (s.trans hid_same) y (fun ht y H4 s4 => ?_) (fun ht H4 s4 => ?_)
    · refine ⟨ys, s4 _ _ e, small1000 (by omega), ys ++ [y], ?_, upd_same, by simp; omega, ?_⟩
      · rw [hid_upd]
        exact s.trans (hid_mono s4)
      · rw [ra, ht]
        simp
    · refine ⟨ys, s.trans (hid_mono s4), s4 _ _ e, by omega, ?_⟩
      rw [ra, ht, r]
      simp
  · obtain ⟨ys, s, e, l, r⟩ := h
    exact hd H ys s e r
/-- the second clause's own loop -/
theorem lc_inner (w : Walk J n G Y) {g1 : TG} {tt1 : TT} {te : TE} {vs1 : List Nat} {σ2 : L2.St} {H4 : Hp} {D : Addr} {Nx : Hp → Prop} (Pv : Nat → Hp → Prop) (h0 : Pv 0 H4) (hG : ∀ j H, j ≤ n → Pv j H → G H)
    (hs : ∀ j x H H', j < n → Pv j H → Y j H x H' → g1 x (wipe σ2 vs1) H' fun σ3 H5 => wipe σ3 vs1 = wipe σ2 vs1 ∧ tt1 σ3 H5 fun b H6 =>
      if b = true then te σ3 H6 fun y H7 => ∃ acc, H7 D = some (.lst acc) ∧ acc.length < sizeLine ∧ Pv (j + 1) (upd H7 D (.lst (acc ++ [y]))) else Pv (j + 1) H6) (hd : ∀ H, Pv n H → Nx H) :
    ∃ W1 : Nat → Nat → Hp → Prop, (∃ m, W1 0 m H4) ∧ ∀ j k H, W1 j k H →
      (J.stop j H ∧ Nx H) ∨ (J.go j H ∧ ∃ Nx1 : Hp → Prop, (∀ H', Nx1 H' → ∃ k', k' < k ∧ W1 (j + 1) k' H') ∧ ∀ x H', J.yld j H x H' → g1 x (wipe σ2 vs1) H' fun σ3 H5 => wipe σ3 vs1 = wipe σ2 vs1 ∧ tt1 σ3 H5 fun b H6 =>
        if b = true then te σ3 H6 fun y H7 => ∃ acc, H7 D = some (.lst acc) ∧ acc.length < sizeLine ∧ Nx1 (upd H7 D (.lst (acc ++ [y]))) else Nx1 H6) := by
  refine ⟨fun i m H => m = n - i ∧ i ≤ n ∧ Pv i H, ⟨n, by simp, Nat.zero_le _, h0⟩, ?_⟩
  rintro i m H ⟨rfl, hi, p⟩
  have q := hG i H hi p
  by_cases hlt : i < n
  · exact .inr ⟨w.goes i H hlt q, Pv (i + 1), fun H' p' => ⟨n - (i + 1), by omega, rfl, hlt, p'⟩, fun x H' y => hs i x H H' hlt p (w.yields i H x H' hlt q y)⟩
  · have e : i = n := by omega
    subst e
    exact .inl ⟨w.stops H q, hd H p⟩
/-- the items of one turn of the first clause -/
def Block (R : Nat → V → Hp → Prop) (m : Nat) (b : List V) (H : Hp) : Prop := b.length = m ∧ ∀ (j : Nat) y, b[j]? = some y → R j y H
theorem Block.mono {R : Nat → V → Hp → Prop} {m : Nat} {b : List V} {H H' : Hp} (mono : ∀ j v H H', Same H H' → R j v H → R j v H') (s : Same H H') (h : Block R m b H) : Block R m b H' := ⟨h.1, fun j y hy => mono j y H H' s (h.2 j y hy)⟩
/-- what the second clause's source is, seen from the i-th turn of the first -/
def InC (m : Nat) (R : Nat → V → Hp → Prop) (g1 : TG) (te : TE) (vs1 : List Nat) (D : Addr) (H : Hp) (σ2 : L2.St) (J1 : It) (H4 : Hp) : Prop :=
  Same H H4 ∧ ∃ (G1 : Hp → Prop) (Y1 : Nat → Hp → V → Hp → Prop), Walk J1 m G1 Y1 ∧ (∀ H5, Same (hid D H4) (hid D H5) → (∃ ys, H5 D = some (.lst ys)) → G1 H5) ∧
    ∀ j x1 H5 H6 (k : V → Hp → Prop), j < m → Same (hid D H4) (hid D H5) → (∃ ys, H5 D = some (.lst ys)) → Y1 j H5 x1 H6 → (∀ y H7, Same H5 H7 → R j y (hid D H7) → k y H7) →
      g1 x1 (wipe σ2 vs1) H6 fun σ3 H8 => wipe σ3 vs1 = wipe σ2 vs1 ∧ te σ3 H8 k
theorem lc2_all (w : Walk J n G Y) {g g1 : TG} {wi1 : TI} {te : TE} {vs vs1 : List Nat} {σ : L2.St} {H1 : Hp} {D : Addr} {Qd : Hp → Prop} (m : Nat → Nat) (R : Nat → Nat → V → Hp → Prop) (mono : ∀ i j v H H', Same H H' → R i j v H → R i j v H')
    (M : Nat) (hm : ∀ i, i < n → m i ≤ M) (hnM : n * M ≤ 999) (hD : H1 D = none) (hS : ∀ H, Same H1 H → G H)
    (hs : ∀ i x H H' (kk : L2.St → It → Hp → Prop), i < n → Same H1 (hid D H) → (∃ ys, H D = some (.lst ys)) → Y i H x H' → (∀ σ2 J1 H4, InC (m i) (R i) g1 te vs1 D H σ2 J1 H4 → kk σ2 J1 H4) →
      g x (wipe σ vs) H' fun σ2 H2 => wipe σ2 vs = wipe σ vs ∧ wi1 σ2 H2 (kk σ2))
    (hd : ∀ H (bs : List (List V)), Same H1 (hid D H) → H D = some (.lst bs.flatten) → bs.length = n → (∀ (i : Nat) b, bs[i]? = some b → Block (R i) (m i) b (hid D H)) → Qd H) :
    ∃ W : Nat → Nat → Hp → Prop, (∃ m, W 0 m (upd H1 D (.lst []))) ∧ ∀ i m H, W i m H →
      (J.stop i H ∧ Qd H) ∨ (J.go i H ∧ ∃ Nx : Hp → Prop, (∀ H', Nx H' → ∃ m', m' < m ∧ W (i + 1) m' H') ∧ ∀ x H', J.yld i H x H' → g x (wipe σ vs) H' fun σ2 H2 => wipe σ2 vs = wipe σ vs ∧ tYes σ2 H2 fun b H3 =>
        if b = true then wi1 σ2 H3 fun J1 H4 => ∃ W1 : Nat → Nat → Hp → Prop, (∃ m, W1 0 m H4) ∧ ∀ j k H, W1 j k H →
          (J1.stop j H ∧ Nx H) ∨ (J1.go j H ∧ ∃ Nx1 : Hp → Prop, (∀ H', Nx1 H' → ∃ k', k' < k ∧ W1 (j + 1) k' H') ∧ ∀ x H', J1.yld j H x H' → g1 x (wipe σ2 vs1) H' fun σ3 H5 => wipe σ3 vs1 = wipe σ2 vs1 ∧ tYes σ3 H5 fun b H6 =>
            if b = true then te σ3 H6 fun y H7 => ∃ acc, H7 D = some (.lst acc) ∧ acc.length < sizeLine ∧ Nx1 (upd H7 D (.lst (acc ++ [y]))) else Nx1 H6)
        else Nx H3) := by
  have fl : ∀ (bs : List (List V)), (∀ (i : Nat) b, bs[i]? = some b → b.length ≤ M) → bs.flatten.length ≤ bs.length * M := fun bs => by
    induction bs with
    | nil => intro _; simp
    | cons b r ih =>
      intro h
      have h1 := h 0 b rfl
      have h2 := ih fun i b hb => h (i + 1) b hb
      rw [List.flatten_cons, List.length_append, List.length_cons, Nat.succ_mul]
      omega
  let Pv : Nat → Hp → Prop := fun i H => ∃ bs : List (List V), Same H1 (hid D H) ∧ H D = some (.lst bs.flatten) ∧ bs.length = i ∧ ∀ (i : Nat) b, bs[i]? = some b → Block (R i) (m i) b (hid D H)
  refine ⟨fun i m H => m = n - i ∧ i ≤ n ∧ Pv i H, ⟨n, by simp, Nat.zero_le _, [], ?_, upd_same, rfl, fun i b h => by simp at h⟩, ?_⟩
  · intro b o e
    rw [hid_ne (ne_of_none e hD), upd_ne (ne_of_none e hD)]
    exact e
  rintro i mm H ⟨rfl, hi, p⟩
  obtain ⟨bs, s, e, l, r⟩ := id p
  have q := hS H (s.trans hid_same)
  by_cases hlt : i < n
  · refine .inr ⟨w.goes i H hlt q, Pv (i + 1), fun H' p' => ⟨n - (i + 1), by omega, rfl, hlt, p'⟩, fun x H' y => ?_⟩
    refine hs i x H H' _ hlt s ⟨_, e⟩ (w.yields i H x H' hlt q y) fun σ2 J1 H4 inc => ?_
    obtain ⟨s4, G1, Y1, w1, hG1, hs1⟩ := inc
    have e4 := s4 _ _ e
    refine lc_inner w1 (fun j H5 => ∃ b : List V, Same (hid D H4) (hid D H5) ∧ H5 D = some (.lst (bs.flatten ++ b)) ∧ Block (R i) j b (hid D H5)) ⟨[], Same.refl _, by rw [List.append_nil]; exact e4, rfl, fun j y h => by simp at h⟩ (fun j H5 _ h => ?_) (fun j x1 H5 H6 hj h y1 => ?_) (fun H5 h => ?_)
    · obtain ⟨b, s5, e5, _⟩ := h
      exact hG1 H5 s5 ⟨_, e5⟩
    · obtain ⟨b, s5, e5, b5⟩ := h
      refine hs1 j x1 H5 H6 _ hj s5 ⟨_, e5⟩ y1 fun y H7 s7 ry => ?_
      refine ⟨_, s7 _ _ e5, small1000 ?_, b ++ [y], ?_, ?_, ?_⟩
      · have h1 := fl bs fun i b hb => by
          have hi' : i < n := by
            have := (List.getElem?_eq_some_iff.mp hb).1
            omega
          rw [(r i b hb).1]
          exact hm i hi'
        have h2 : b.length < M := by
          have := hm i hlt
          rw [b5.1]
          omega
        have h3 : (i + 1) * M ≤ n * M := Nat.mul_le_mul_right _ hlt
        rw [Nat.succ_mul] at h3
        rw [List.length_append]
        rw [l] at h1
        omega
      · rw [hid_upd]
        exact s5.trans (hid_mono s7)
      · rw [upd_same, List.append_assoc]
      · rw [hid_upd]
        refine ⟨by rw [List.length_append, b5.1]; rfl, fun j' y' h => ?_⟩
        by_cases hj' : j' < b.length
        · rw [List.getElem?_append_left hj'] at h
          exact mono _ _ _ _ _ (hid_mono s7) (b5.2 j' y' h)
        · rw [List.getElem?_append_right (by omega)] at h
          have hj2 : j' - b.length = 0 := by
            have := (List.getElem?_eq_some_iff.mp h).1
            simp at this
            omega
          rw [hj2] at h
          simp at h
          subst h
          have hb := b5.1
          have : j' = j := by omega
          rw [this]
          exact ry
    · obtain ⟨b, s5, e5, b5⟩ := h
      refine ⟨bs ++ [b], s.trans ((hid_mono s4).trans s5), by rw [e5]; simp, by simp [l], fun i' b' h => ?_⟩
      by_cases hi' : i' < bs.length
      · rw [List.getElem?_append_left hi'] at h
        exact (r i' b' h).mono (mono i') ((hid_mono s4).trans s5)
      · rw [List.getElem?_append_right (by omega)] at h
        have hj2 : i' - bs.length = 0 := by
          have := (List.getElem?_eq_some_iff.mp h).1
          simp at this
          omega
        rw [hj2] at h
        simp at h
        subst h
        have : i' = i := by omega
        rw [this]
        exact b5
  · have e' : i = n := by omega
    subst e'
    exact .inl ⟨w.stops H q, hd H bs s e l r⟩
end
/-! ### slots that a comprehension sets are wiped -/
theorem wipe_in {σ : L2.St} {i : Nat} : ∀ {vs : List Nat}, i ∈ vs → (wipe σ vs)[i]? = if i < σ.length then some none else none
  | v :: vs, h => by
    unfold wipe
    rw [List.getElem?_set, wipe_length]
    by_cases e : v = i
    · subst e
      rw [if_pos rfl]
    · rw [if_neg e]
      exact wipe_in ((List.mem_cons.mp h).resolve_left fun z => e z.symm)
theorem wipe_eq {σ σ' : L2.St} {vs : List Nat} (hl : σ'.length = σ.length) (h : ∀ i, i ∉ vs → σ'[i]? = σ[i]?) : wipe σ' vs = wipe σ vs := by
  refine List.ext_getElem? fun i => ?_
  by_cases hi : i ∈ vs
  · rw [wipe_in hi, wipe_in hi, hl]
  · rw [wipe_out hi, wipe_out hi, h i hi]
theorem wipe1 {σ : L2.St} {vs : List Nat} {i : Nat} {x : Option V} (hi : i ∈ vs) : wipe ((wipe σ vs).set i x) vs = wipe σ vs := by
  refine wipe_eq (by rw [List.length_set, wipe_length]) fun j hj => ?_
  have n1 : i ≠ j := fun e => hj (e ▸ hi)
  rw [List.getElem?_set_ne n1, wipe_out hj]
theorem wipe2 {σ : L2.St} {vs : List Nat} {i j : Nat} {x y : Option V} (hi : i ∈ vs) (hj : j ∈ vs) : wipe (((wipe σ vs).set i x).set j y) vs = wipe σ vs := by
  refine wipe_eq (by rw [List.length_set, List.length_set, wipe_length]) fun l hl => ?_
  have n1 : i ≠ l := fun e => hl (e ▸ hi)
  have n2 : j ≠ l := fun e => hl (e ▸ hj)
  rw [List.getElem?_set_ne n2, List.getElem?_set_ne n1, wipe_out hl]
theorem look_out {σ : L2.St} {vs : List Nat} {i j l : Nat} {x y o : Option V} (h : σ[l]? = some o) (hl : l ∉ vs) (n1 : i ≠ l) (n2 : j ≠ l) : (((wipe σ vs).set i x).set j y)[l]? = some o := by
  rw [List.getElem?_set_ne n2, List.getElem?_set_ne n1, wipe_out hl, h]
theorem look_1 {σ : L2.St} {vs : List Nat} {i j : Nat} {x y : Option V} (hl : i < σ.length) (n : j ≠ i) : (((wipe σ vs).set i x).set j y)[i]? = some x := by
  rw [List.getElem?_set_ne n, List.getElem?_set_self (by rw [wipe_length]; exact hl)]
theorem look_2 {σ : L2.St} {vs : List Nat} {i j : Nat} {x y : Option V} (hl : j < σ.length) : (((wipe σ vs).set i x).set j y)[j]? = some y := by
  rw [List.getElem?_set_self (by rw [List.length_set, wipe_length]; exact hl)]
theorem look_len {σ : L2.St} {vs : List Nat} {i j n : Nat} {x y : Option V} (hl : σ.length = n) : (((wipe σ vs).set i x).set j y).length = n := by
  rw [List.length_set, List.length_set, wipe_length, hl]
/-- rows put one behind the other -/
theorem AllAre.flatten {α : Type} {R : V → α → Prop} : ∀ {bs : List (List V)} {xss : List (List α)}, bs.length = xss.length → (∀ (i : Nat) b xs, bs[i]? = some b → xss[i]? = some xs → AllAre R b xs) → AllAre R bs.flatten xss.flatten
  | [], [], _, _ => .nil
  | b :: bs, xs :: xss, l, h => by
    rw [List.flatten_cons, List.flatten_cons]
    exact (h 0 b xs rfl rfl).append (AllAre.flatten (by simpa using l) fun i b xs h1 h2 => h (i + 1) b xs h1 h2)
  | [], _ :: _, l, _ => by simp at l
  | _ :: _, [], l, _ => by simp at l
/-! ### sums of products -/
def dot (qs rs : List Rat) : Rat := rsum (List.zipWith (· * ·) qs rs)
theorem tops_dot {U G : Nat} (hU : 0 < U) (hG : 0 < G) : ∀ (qs rs : List Rat), (∀ q ∈ qs, q.den ∣ U) → (∀ r ∈ rs, r.den ∣ G) →
    Rat.divInt (List.zipWith (· * ·) (topsOf U qs) (topsOf G rs)).sum ((U : Int) * (G : Int)) = dot qs rs
  | [], _, _, _ => by simp [topsOf, dot, rsum]
  | _ :: _, [], _, _ => by simp [topsOf, dot, rsum]
  | q :: qs, r :: rs, h1, h2 => by
    have ih := tops_dot hU hG qs rs (fun x hx => h1 x (List.mem_cons_of_mem _ hx)) fun x hx => h2 x (List.mem_cons_of_mem _ hx)
    have t1 := tops_one hU (h1 q List.mem_cons_self)
    have t2 := tops_one hG (h2 r List.mem_cons_self)
    show Rat.divInt ((q.num * ((U / q.den : Nat) : Int)) * (r.num * ((G / r.den : Nat) : Int)) + (List.zipWith (· * ·) (topsOf U qs) (topsOf G rs)).sum) ((U : Int) * (G : Int)) = q * r + dot qs rs
    rw [divInt_add_same, ih, ← Rat.divInt_mul_divInt, t1, t2]
theorem den_add {a b : Rat} {S : Nat} (h0 : 0 < S) (ha : a.den ∣ S) (hb : b.den ∣ S) : (a + b).den ∣ S := by
  have e : a + b = Rat.divInt (a.num * ((S / a.den : Nat) : Int) + b.num * ((S / b.den : Nat) : Int)) (S : Int) := by
    rw [divInt_add_same, tops_one h0 ha, tops_one h0 hb]
  rw [e]
  exact den_dvd_bot h0
end Fb

/-! Part A16: fractions over a common bottom that are not great; sums of products of pairs. -/
namespace Fb
open PySem PySem.Spec PyProof.Rows L2
structure Nice (S M : Nat) (q : Rat) : Prop where
  den : q.den ∣ S
  abs : q.num.natAbs ≤ M * q.den
theorem Nice.mono {S S' M M' : Nat} {q : Rat} (h : Nice S M q) (d : S ∣ S') (l : M ≤ M') : Nice S' M' q := ⟨Nat.dvd_trans h.den d, Nat.le_trans h.abs (Nat.mul_le_mul_right _ l)⟩
theorem Nice.bd {S M n : Nat} {q : Rat} (h : Nice S M q) (S0 : 0 < S) (h1 : S < 2 ^ n) (h2 : M * S < 2 ^ n) : Bd n q := by
  have l := Nat.le_of_dvd S0 h.den
  exact ⟨Nat.lt_of_le_of_lt (Nat.le_trans h.abs (Nat.mul_le_mul_left _ l)) h2, Nat.lt_of_le_of_lt l h1⟩
theorem divInt_cross {t b : Int} {q : Rat} (hb : b ≠ 0) (h : Rat.divInt t b = q) : q.num * b = t * (q.den : Int) := by
  have e : Rat.divInt q.num (q.den : Int) = Rat.divInt t b := by rw [divInt_self, h]
  exact (Rat.divInt_eq_divInt_iff (den_ne q) hb).mp e
theorem Nice.of {t : Int} {b S M : Nat} (hb : 0 < b) (d : b ∣ S) (h : t.natAbs ≤ M * b) : Nice S M (Rat.divInt t (b : Int)) := by
  refine ⟨Nat.dvd_trans (den_dvd_bot hb) d, ?_⟩
  have e := divInt_cross (t := t) (b := (b : Int)) (by omega) rfl
  generalize Rat.divInt t (b : Int) = q at e
  have e2 := congrArg Int.natAbs e
  rw [Int.natAbs_mul, Int.natAbs_mul, Int.natAbs_natCast, Int.natAbs_natCast] at e2
  have h3 : q.num.natAbs * b ≤ (M * q.den) * b := by
    rw [e2, Nat.mul_right_comm]
    exact Nat.mul_le_mul_right _ h
  exact Nat.le_of_mul_le_mul_right h3 hb
theorem Nice.add {S M N : Nat} {x y : Rat} (S0 : 0 < S) (hx : Nice S M x) (hy : Nice S N y) : Nice S (M + N) (x + y) := by
  refine ⟨den_add S0 hx.den hy.den, ?_⟩
  have e := divInt_cross (dens_ne x y) (rat_add x y)
  generalize x + y = q at e
  have e2 := congrArg Int.natAbs e
  rw [Int.natAbs_mul, Int.natAbs_mul, Int.natAbs_mul, Int.natAbs_natCast, Int.natAbs_natCast, Int.natAbs_natCast] at e2
  have h1 : (x.num * (y.den : Int) + y.num * (x.den : Int)).natAbs ≤ (M + N) * (x.den * y.den) := by
    refine Nat.le_trans (Int.natAbs_add_le _ _) ?_
    rw [Int.natAbs_mul, Int.natAbs_mul, Int.natAbs_natCast, Int.natAbs_natCast, Nat.add_mul]
    refine Nat.add_le_add ?_ ?_
    · rw [← Nat.mul_assoc]
      exact Nat.mul_le_mul_right _ hx.abs
    · rw [Nat.mul_comm x.den, ← Nat.mul_assoc]
      exact Nat.mul_le_mul_right _ hy.abs
  have h3 : q.num.natAbs * (x.den * y.den) ≤ ((M + N) * q.den) * (x.den * y.den) := by
    rw [e2, Nat.mul_right_comm]
    exact Nat.mul_le_mul_right _ h1
  exact Nat.le_of_mul_le_mul_right h3 (Nat.mul_pos x.den_pos y.den_pos)
theorem Nice.neg {S M : Nat} {x : Rat} (h : Nice S M x) : Nice S M (-x) := by
  refine ⟨by rw [Rat.neg_den]; exact h.den, ?_⟩
  rw [Rat.neg_num, Rat.neg_den, Int.natAbs_neg]
  exact h.abs
theorem Nice.sub {S M N : Nat} {x y : Rat} (S0 : 0 < S) (hx : Nice S M x) (hy : Nice S N y) : Nice S (M + N) (x - y) := by
  rw [Rat.sub_eq_add_neg]
  exact hx.add S0 hy.neg
theorem Nice.mul {S T M N : Nat} {x y : Rat} (hx : Nice S M x) (hy : Nice T N y) : Nice (S * T) (M * N) (x * y) := by
  have e := divInt_cross (dens_ne x y) (rat_mul x y)
  have dd : (x * y).den ∣ x.den * y.den := by
    rw [← rat_mul, ← Int.natCast_mul]
    exact den_dvd_bot (Nat.mul_pos x.den_pos y.den_pos)
  refine ⟨Nat.dvd_trans dd (Nat.mul_dvd_mul hx.den hy.den), ?_⟩
  generalize x * y = q at e
  have e2 := congrArg Int.natAbs e
  rw [Int.natAbs_mul, Int.natAbs_mul, Int.natAbs_mul, Int.natAbs_mul, Int.natAbs_natCast, Int.natAbs_natCast, Int.natAbs_natCast] at e2
  have h3 : q.num.natAbs * (x.den * y.den) ≤ ((M * N) * q.den) * (x.den * y.den) := by
    rw [e2]
    have := Nat.mul_le_mul hx.abs hy.abs
    calc x.num.natAbs * y.num.natAbs * q.den ≤ (M * x.den) * (N * y.den) * q.den := Nat.mul_le_mul_right _ this
      _ = M * N * q.den * (x.den * y.den) := by
        simp only [Nat.mul_comm, Nat.mul_assoc, Nat.mul_left_comm]
  exact Nat.le_of_mul_le_mul_right h3 (Nat.mul_pos x.den_pos y.den_pos)
theorem Nice.zero {S : Nat} : Nice S 0 0 := ⟨Nat.one_dvd _, by decide⟩
theorem Nice.rsum {S M : Nat} (S0 : 0 < S) : ∀ {qs : List Rat}, (∀ q ∈ qs, Nice S M q) → Nice S (M * qs.length) (Fb.rsum qs)
  | [], _ => by
    rw [List.length_nil, Nat.mul_zero]
    exact Nice.zero
  | q :: r, h => by
    have h1 := (h q List.mem_cons_self).add S0 (Nice.rsum S0 (qs := r) fun x hx => h x (List.mem_cons_of_mem _ hx))
    rw [List.length_cons, Nat.mul_succ, Nat.add_comm]
    exact h1
theorem mem_zip {qs rs : List Rat} {z : Rat} (h : z ∈ List.zipWith (· * ·) qs rs) : ∃ q ∈ qs, ∃ r ∈ rs, z = q * r := by
  obtain ⟨i, hi, e⟩ := List.mem_iff_getElem.mp h
  rw [List.getElem_zipWith] at e
  exact ⟨_, List.getElem_mem _, _, List.getElem_mem _, e.symm⟩
/-- row by row is the same as all in one -/
theorem dot_rows : ∀ {css pss : List (List Rat)}, css.length = pss.length → (∀ (i : Nat) c p, css[i]? = some c → pss[i]? = some p → c.length = p.length) → dot css.flatten pss.flatten = rsum (List.zipWith dot css pss)
  | [], [], _, _ => rfl
  | c :: css, p :: pss, l, h => by
    have ih := dot_rows (css := css) (pss := pss) (by simpa using l) fun i c p h1 h2 => h (i + 1) c p h1 h2
    have h0 : c.length = p.length := h 0 c p rfl rfl
    show dot (c ++ css.flatten) (p ++ pss.flatten) = dot c p + rsum (List.zipWith dot css pss)
    rw [← ih]
    unfold dot
    rw [List.zipWith_append h0, rsum_append]
  | [], _ :: _, l, _ => by simp at l
  | _ :: _, [], l, _ => by simp at l
theorem lcm_len {qs : List Rat} {n N a : Nat} (h : ∀ q ∈ qs, q.den < 2 ^ n) (l : qs.length ≤ N) (ha : 1 + n * N ≤ a) : lcmOn 1 qs < 2 ^ a := by
  have h1 := lcmOn_lt qs 1 n 1 h (by decide)
  refine Nat.lt_of_lt_of_le h1 (Nat.pow_le_pow_right (by decide) ?_)
  have := Nat.mul_le_mul_left n l
  omega
theorem flat_len {l : List (List Rat)} {k : Nat} (h : ∀ qs ∈ l, qs.length ≤ k) : l.flatten.length ≤ l.length * k := by
  induction l with
  | nil => simp
  | cons b r ih =>
    have h1 := h b List.mem_cons_self
    have h2 := ih fun q hq => h q (List.mem_cons_of_mem _ hq)
    rw [List.flatten_cons, List.length_append, List.length_cons, Nat.succ_mul]
    omega
theorem mem_rows {l : List (List Rat)} {q : Rat} (h : q ∈ l.flatten) : ∃ r ∈ l, q ∈ r := List.mem_flatten.mp h
/-- [e for .. in ..] over any walk, each turn at most c draws -/
theorem lc_wellW {J : It} {n : Nat} {G : Hp → Prop} {Y : Nat → Hp → V → Hp → Prop} (w : Walk J n G Y) {g : TG} {te : TE} {vs : List Nat} {σ : L2.St} {H1 : Hp} {D a : Addr} {Qd : Hp → Prop} (R : V → Hp → Prop) (mono : ∀ v H H', Same H H' → R v H → R v H') (c f : Nat)
    (hD : H1 D = none) (hw : WellAt H1 a (f + c * n)) (hn : n ≤ 1000) (hS : ∀ H, Same (hid a H1) (hid a H) → G H)
    (hs : ∀ i x H H' m (k : V → Hp → Prop), i < n → WellAt H a (m + c) → Same (hid a H1) (hid D (hid a H)) → (∃ ys, H D = some (.lst ys)) → Y i H x H' → (∀ y H4, Same (hid a H) (hid a H4) → WellAt H4 a m → R y (hid D (hid a H4)) → k y H4) →
      g x (wipe σ vs) H' fun σ2 H2 => wipe σ2 vs = wipe σ vs ∧ te σ2 H2 k)
    (hd : ∀ H ys, Same (hid a H1) (hid D (hid a H)) → WellAt H a f → H D = some (.lst ys) → ys.length = n → (∀ y ∈ ys, R y (hid D (hid a H))) → Qd H) :
    ∃ W : Nat → Nat → Hp → Prop, (∃ m, W 0 m (upd H1 D (.lst []))) ∧ ∀ i m H, W i m H →
      (J.stop i H ∧ Qd H) ∨ (J.go i H ∧ ∃ Nx : Hp → Prop, (∀ H', Nx H' → ∃ m', m' < m ∧ W (i + 1) m' H') ∧ ∀ x H', J.yld i H x H' → g x (wipe σ vs) H' fun σ2 H2 => wipe σ2 vs = wipe σ vs ∧ tYes σ2 H2 fun b H3 =>
        if b = true then te σ2 H3 fun y H4 => ∃ acc, H4 D = some (.lst acc) ∧ acc.length < sizeLine ∧ Nx (upd H4 D (.lst (acc ++ [y]))) else Nx H3) := by
  have nD : D ≠ a := hw.ne hD
  refine lc_it w (fun i H => ∃ ys, Same (hid a H1) (hid D (hid a H)) ∧ WellAt H a (f + c * (n - i)) ∧ H D = some (.lst ys) ∧ ys.length = i ∧ ∀ y ∈ ys, R y (hid D (hid a H))) ⟨[], ?_, hw.upd nD, upd_same, rfl, fun y h => by simp at h⟩ (fun i H _ h => ?_) (fun i x H H' hi h y => ?_) (fun H h => ?_)
  · rw [hid2_upd nD]
    intro b o e
    have hb : b ≠ D := fun z => by
      rw [z, hid_ne nD, hD] at e
      cases e
    rw [hid_ne hb]
    exact e
  · obtain ⟨ys, s, _⟩ := h
    exact hS H (s.trans hid_same)
  · obtain ⟨ys, s, w, e, l, r⟩ := h
    have ec : f + c * (n - i) = (f + c * (n - (i + 1))) + c := by
      have : n - i = (n - (i + 1)) + 1 := by omega
      rw [this, Nat.mul_succ]
      omega
    rw [ec] at w
    refine hs i x H H' _ (fun y H4 => ∃ acc, H4 D = some (.lst acc) ∧ acc.length < sizeLine ∧ ∃ ys, Same (hid a H1) (hid D (hid a (upd H4 D (.lst (acc ++ [y]))))) ∧ WellAt (upd H4 D (.lst (acc ++ [y]))) a (f + c * (n - (i + 1))) ∧ (upd H4 D (.lst (acc ++ [y]))) D = some (.lst ys) ∧ ys.length = i + 1 ∧ ∀ y' ∈ ys, R y' (hid D (hid a (upd H4 D (.lst (acc ++ [y])))))) hi w s ⟨_, e⟩ y fun y H4 s4 w4 ry => ?_
    have e4 : H4 D = some (.lst ys) := by
      have := s4 D (.lst ys) (by rw [hid_ne nD]; exact e)
      rw [hid_ne nD] at this
      exact this
    refine ⟨ys, e4, small1000 (by omega), ys ++ [y], ?_, w4.upd nD, upd_same, by simp [l], fun y' h => ?_⟩
    · rw [hid2_upd nD]
      exact s.trans (hid_mono s4)
    · rw [hid2_upd nD]
      rcases List.mem_append.mp h with h | h
      · exact mono _ _ _ (hid_mono s4) (r y' h)
      · have : y' = y := by simpa using h
        rw [this]
        exact ry
  · obtain ⟨ys, s, w, e, l, r⟩ := h
    rw [Nat.sub_self, Nat.mul_zero] at w
    exact hd H ys s w e l r
end Fb

namespace Fb
open PySem PySem.Spec PyProof.Rows L2
def topS (i : Nat) : Stmt := PySem.Challenge.pw_farbetween_k12_prices_judged.main.body.getD i (.Pass ⟨0, 0, 0, 0⟩)
abbrev s_p_written : Stmt := topS 5
theorem sc_p_written : FnScope ["number", "piece", "pieces", "rest"] ["number"] (defScope s_p_written) := ⟨rfl, rfl, rfl, by decide +kernel, rfl, by decide +kernel, by decide +kernel⟩
abbrev s_p_is_whole : Stmt := topS 7
theorem sc_p_is_whole : FnScope ["thing"] ["thing"] (defScope s_p_is_whole) := ⟨rfl, rfl, rfl, by decide +kernel, rfl, by decide +kernel, by decide +kernel⟩
abbrev s_m_Share_init : Stmt := inClass (topS 9) 0
theorem sc_m_Share_init : FnScope ["self", "top", "bottom", "common"] ["self", "top", "bottom"] (defScope s_m_Share_init) := ⟨rfl, rfl, rfl, by decide +kernel, rfl, by decide +kernel, by decide +kernel⟩
abbrev s_m_Share_eq : Stmt := inClass (topS 9) 1
theorem sc_m_Share_eq : FnScope ["self", "other"] ["self", "other"] (defScope s_m_Share_eq) := ⟨rfl, rfl, rfl, by decide +kernel, rfl, by decide +kernel, by decide +kernel⟩
abbrev s_m_Share_str : Stmt := inClass (topS 9) 2
theorem sc_m_Share_str : FnScope ["self"] ["self"] (defScope s_m_Share_str) := ⟨rfl, rfl, rfl, by decide +kernel, rfl, by decide +kernel, by decide +kernel⟩
abbrev s_p_common_part : Stmt := topS 10
theorem sc_p_common_part : FnScope ["one", "other"] ["one", "other"] (defScope s_p_common_part) := ⟨rfl, rfl, rfl, by decide +kernel, rfl, by decide +kernel, by decide +kernel⟩
abbrev s_p_common_multiple : Stmt := topS 11
theorem sc_p_common_multiple : FnScope ["one", "other"] ["one", "other"] (defScope s_p_common_multiple) := ⟨rfl, rfl, rfl, by decide +kernel, rfl, by decide +kernel, by decide +kernel⟩
abbrev s_p_common_bottom : Stmt := topS 12
theorem sc_p_common_bottom : FnScope ["shares", "bottom", "share"] ["shares"] (defScope s_p_common_bottom) := ⟨rfl, rfl, rfl, by decide +kernel, rfl, by decide +kernel, by decide +kernel⟩
abbrev s_p_tops_over : Stmt := topS 13
theorem sc_p_tops_over : FnScope ["bottom", "shares", "share"] ["bottom", "shares"] (defScope s_p_tops_over) := ⟨rfl, rfl, rfl, by decide +kernel, rfl, by decide +kernel, by decide +kernel⟩
abbrev s_p_minus : Stmt := topS 14
theorem sc_p_minus : FnScope ["one", "other"] ["one", "other"] (defScope s_p_minus) := ⟨rfl, rfl, rfl, by decide +kernel, rfl, by decide +kernel, by decide +kernel⟩
abbrev s_p_are_shares : Stmt := topS 16
theorem sc_p_are_shares : FnScope ["thing", "many", "each"] ["thing", "many"] (defScope s_p_are_shares) := ⟨rfl, rfl, rfl, by decide +kernel, rfl, by decide +kernel, by decide +kernel⟩
abbrev s_p_are_prices : Stmt := topS 17
theorem sc_p_are_prices : FnScope ["thing", "costs", "here", "there", "bottom", "near", "far", "rows", "row", "at", "to", "cost"] ["thing", "costs"] (defScope s_p_are_prices) := ⟨rfl, rfl, rfl, by decide +kernel, rfl, by decide +kernel, by decide +kernel⟩
abbrev s_p_joined : Stmt := topS 18
theorem sc_p_joined : FnScope ["rows", "row", "thing"] ["rows"] (defScope s_p_joined) := ⟨rfl, rfl, rfl, by decide +kernel, rfl, by decide +kernel, by decide +kernel⟩
abbrev s_p_weighed : Stmt := topS 19
theorem sc_p_weighed : FnScope ["shares", "others", "unit", "grain", "parts", "one", "other"] ["shares", "others"] (defScope s_p_weighed) := ⟨rfl, rfl, rfl, by decide +kernel, rfl, by decide +kernel, by decide +kernel⟩
abbrev s_p_cost_of : Stmt := topS 20
theorem sc_p_cost_of : FnScope ["costs", "plan"] ["costs", "plan"] (defScope s_p_cost_of) := ⟨rfl, rfl, rfl, by decide +kernel, rfl, by decide +kernel, by decide +kernel⟩
abbrev s_p_brought : Stmt := topS 21
theorem sc_p_brought : FnScope ["prices", "first", "second", "here", "there"] ["prices", "first", "second"] (defScope s_p_brought) := ⟨rfl, rfl, rfl, by decide +kernel, rfl, by decide +kernel, by decide +kernel⟩
abbrev s_l_well : Stmt := topS 23
theorem sc_l_well : FnScope ["_law_cell"] ["_law_cell"] (defScope s_l_well) := ⟨rfl, rfl, rfl, by decide +kernel, rfl, by decide +kernel, by decide +kernel⟩
abbrev s_l_draw : Stmt := topS 24
theorem sc_l_draw : FnScope ["_law_well_here", "_law_many", "_law_digit", "_law_prime", "_law_number"] ["_law_well_here", "_law_many"] (defScope s_l_draw) := ⟨rfl, rfl, rfl, by decide +kernel, rfl, by decide +kernel, by decide +kernel⟩
abbrev s_l_one : Stmt := topS 25
theorem sc_l_one : FnScope ["_law_well_here", "_law_some"] ["_law_well_here", "_law_some"] (defScope s_l_one) := ⟨rfl, rfl, rfl, by decide +kernel, rfl, by decide +kernel, by decide +kernel⟩
abbrev s_l_low : Stmt := topS 26
theorem sc_l_low : FnScope ["_law_top", "_law_bottom", "_law_one_here", "_law_other"] ["_law_top", "_law_bottom"] (defScope s_l_low) := ⟨rfl, rfl, rfl, by decide +kernel, rfl, by decide +kernel, by decide +kernel⟩
abbrev s_l_pair : Stmt := topS 27
theorem sc_l_pair : FnScope ["_law_share"] ["_law_share"] (defScope s_l_pair) := ⟨rfl, rfl, rfl, by decide +kernel, rfl, by decide +kernel, by decide +kernel⟩
abbrev s_l_heap : Stmt := topS 28
theorem sc_l_heap : FnScope ["_law_well_here", "_law_many", "_law_way", "_law_weights", "_law_k", "_law_at", "_law_place", "_law_weight"] ["_law_well_here", "_law_many"] (defScope s_l_heap) := ⟨rfl, rfl, rfl, by decide +kernel, rfl, by decide +kernel, by decide +kernel⟩
abbrev s_l_costs : Stmt := topS 29
theorem sc_l_costs : FnScope ["_law_well_here", "_law_here", "_law_there", "_law_most", "_law_bottom", "_law_x", "_law_y"] ["_law_well_here", "_law_here", "_law_there"] (defScope s_l_costs) := ⟨rfl, rfl, rfl, by decide +kernel, rfl, by decide +kernel, by decide +kernel⟩
abbrev s_l_shares : Stmt := topS 30
theorem sc_l_shares : FnScope ["_law_pairs", "_law_top", "_law_bottom"] ["_law_pairs"] (defScope s_l_shares) := ⟨rfl, rfl, rfl, by decide +kernel, rfl, by decide +kernel, by decide +kernel⟩
abbrev s_l_rows : Stmt := topS 31
theorem sc_l_rows : FnScope ["_law_rows_here", "_law_row"] ["_law_rows_here"] (defScope s_l_rows) := ⟨rfl, rfl, rfl, by decide +kernel, rfl, by decide +kernel, by decide +kernel⟩
abbrev s_l_added : Stmt := topS 32
theorem sc_l_added : FnScope ["_law_one_here", "_law_other"] ["_law_one_here", "_law_other"] (defScope s_l_added) := ⟨rfl, rfl, rfl, by decide +kernel, rfl, by decide +kernel, by decide +kernel⟩
abbrev s_l_total : Stmt := topS 33
theorem sc_l_total : FnScope ["_law_pairs", "_law_found", "_law_pair_here"] ["_law_pairs"] (defScope s_l_total) := ⟨rfl, rfl, rfl, by decide +kernel, rfl, by decide +kernel, by decide +kernel⟩
abbrev s_l_by : Stmt := topS 34
theorem sc_l_by : FnScope ["_law_one_here", "_law_other"] ["_law_one_here", "_law_other"] (defScope s_l_by) := ⟨rfl, rfl, rfl, by decide +kernel, rfl, by decide +kernel, by decide +kernel⟩
abbrev s_l_below : Stmt := topS 35
theorem sc_l_below : FnScope ["_law_one_here", "_law_other"] ["_law_one_here", "_law_other"] (defScope s_l_below) := ⟨rfl, rfl, rfl, by decide +kernel, rfl, by decide +kernel, by decide +kernel⟩
abbrev s_l_filled : Stmt := topS 36
theorem sc_l_filled : FnScope ["_law_well_here", "_law_first", "_law_second", "_law_have", "_law_want", "_law_plan", "_law_spots", "_law_x", "_law_y", "_law_amount", "_law_share"] ["_law_well_here", "_law_first", "_law_second"] (defScope s_l_filled) := ⟨rfl, rfl, rfl, by decide +kernel, rfl, by decide +kernel, by decide +kernel⟩
abbrev s_l_cost : Stmt := topS 37
theorem sc_l_cost : FnScope ["_law_costs_here", "_law_plan", "_law_found", "_law_row", "_law_amounts", "_law_cost_here", "_law_amount"] ["_law_costs_here", "_law_plan"] (defScope s_l_cost) := ⟨rfl, rfl, rfl, by decide +kernel, rfl, by decide +kernel, by decide +kernel⟩
abbrev s_l_less : Stmt := topS 38
theorem sc_l_less : FnScope ["_law_one_here", "_law_other"] ["_law_one_here", "_law_other"] (defScope s_l_less) := ⟨rfl, rfl, rfl, by decide +kernel, rfl, by decide +kernel, by decide +kernel⟩
abbrev s_l_prices : Stmt := topS 39
theorem sc_l_prices : FnScope ["_law_well_here", "_law_costs_here", "_law_there", "_law_here", "_law_row", "_law_lowest_one", "_law_cost_here", "_law_price", "_law_most"] ["_law_well_here", "_law_costs_here"] (defScope s_l_prices) := ⟨rfl, rfl, rfl, by decide +kernel, rfl, by decide +kernel, by decide +kernel⟩
abbrev s_l_due : Stmt := topS 40
theorem sc_l_due : FnScope ["_law_costs_here", "_law_prices_here", "_law_here", "_law_there", "_law_row", "_law_price", "_law_one_here", "_law_cost_here", "_law_other"] ["_law_costs_here", "_law_prices_here"] (defScope s_l_due) := ⟨rfl, rfl, rfl, by decide +kernel, rfl, by decide +kernel, by decide +kernel⟩
abbrev s_l_otherwise : Stmt := topS 41
theorem sc_l_otherwise : FnScope ["_law_well_here", "_law_prices_here", "_law_some", "_law_side", "_law_at", "_law_pick"] ["_law_well_here", "_law_prices_here"] (defScope s_l_otherwise) := ⟨rfl, rfl, rfl, by decide +kernel, rfl, by decide +kernel, by decide +kernel⟩
abbrev s_l_made : Stmt := topS 42
theorem sc_l_made : FnScope ["_law_prices_here", "_law_some", "_law_one_here"] ["_law_prices_here"] (defScope s_l_made) := ⟨rfl, rfl, rfl, by decide +kernel, rfl, by decide +kernel, by decide +kernel⟩
abbrev s_l_summed : Stmt := topS 43
theorem sc_l_summed : FnScope ["_law_well_here", "_law_costs_here", "_law_heaps", "_law_prices_here", "_law_gained", "_law_spent", "_law_found", "_law_plan", "_law_price", "_law_share"] ["_law_well_here", "_law_costs_here", "_law_heaps", "_law_prices_here"] (defScope s_l_summed) := ⟨rfl, rfl, rfl, by decide +kernel, rfl, by decide +kernel, by decide +kernel⟩
abbrev s_law : Stmt := topS 44
theorem sc_law : FnScope ["_law_script", "_law_cell", "_law_well_here", "_law_most", "_law_here", "_law_there", "_law_costs_here", "_law_heaps", "_law_prices_here", "_law_rows_here", "_law_turn", "_law_odd", "_law_k", "_law_found", "_law_told", "_law_strange"] ["_law_script"] (defScope s_law) := ⟨rfl, rfl, rfl, by decide +kernel, rfl, by decide +kernel, by decide +kernel⟩
structure Txt (K : PySem.W.Frag) (mg : Str → Option Value) where
  c_FarError : Addr
  g_FarError : mg "FarError" = some (.ref c_FarError)
  c_NoShare : Addr
  g_NoShare : mg "NoShare" = some (.ref c_NoShare)
  c_Share : Addr
  g_Share : mg "Share" = some (.ref c_Share)
  f_p_written : Addr
  d_p_written : FuncData
  F_p_written : Fun K "written" "written" s_p_written f_p_written d_p_written
  b_p_written : Binds K d_p_written ["number"] []
  g_p_written : mg "written" = some (.ref f_p_written)
  f_p_is_whole : Addr
  d_p_is_whole : FuncData
  F_p_is_whole : Fun K "is_whole" "is_whole" s_p_is_whole f_p_is_whole d_p_is_whole
  b_p_is_whole : Binds K d_p_is_whole ["thing"] []
  g_p_is_whole : mg "is_whole" = some (.ref f_p_is_whole)
  f_m_Share_init : Addr
  d_m_Share_init : FuncData
  F_m_Share_init : FunD K "__init__" "Share.__init__" (defArgs s_m_Share_init) (defBody s_m_Share_init) (defScope s_m_Share_init) [.int 1] [] f_m_Share_init d_m_Share_init
  b_m_Share_init : Binds K d_m_Share_init ["self", "top", "bottom"] []
  e_m_Share_init : ∃ ds, Vals [.int 1] ds ∧ Binds K d_m_Share_init ["self", "top", "bottom"] ds
  f_m_Share_eq : Addr
  d_m_Share_eq : FuncData
  F_m_Share_eq : Fun K "__eq__" "Share.__eq__" s_m_Share_eq f_m_Share_eq d_m_Share_eq
  b_m_Share_eq : Binds K d_m_Share_eq ["self", "other"] []
  f_m_Share_str : Addr
  d_m_Share_str : FuncData
  F_m_Share_str : Fun K "__str__" "Share.__str__" s_m_Share_str f_m_Share_str d_m_Share_str
  b_m_Share_str : Binds K d_m_Share_str ["self"] []
  f_p_common_part : Addr
  d_p_common_part : FuncData
  F_p_common_part : Fun K "common_part" "common_part" s_p_common_part f_p_common_part d_p_common_part
  b_p_common_part : Binds K d_p_common_part ["one", "other"] []
  g_p_common_part : mg "common_part" = some (.ref f_p_common_part)
  f_p_common_multiple : Addr
  d_p_common_multiple : FuncData
  F_p_common_multiple : Fun K "common_multiple" "common_multiple" s_p_common_multiple f_p_common_multiple d_p_common_multiple
  b_p_common_multiple : Binds K d_p_common_multiple ["one", "other"] []
  g_p_common_multiple : mg "common_multiple" = some (.ref f_p_common_multiple)
  f_p_common_bottom : Addr
  d_p_common_bottom : FuncData
  F_p_common_bottom : Fun K "common_bottom" "common_bottom" s_p_common_bottom f_p_common_bottom d_p_common_bottom
  b_p_common_bottom : Binds K d_p_common_bottom ["shares"] []
  g_p_common_bottom : mg "common_bottom" = some (.ref f_p_common_bottom)
  f_p_tops_over : Addr
  d_p_tops_over : FuncData
  F_p_tops_over : Fun K "tops_over" "tops_over" s_p_tops_over f_p_tops_over d_p_tops_over
  b_p_tops_over : Binds K d_p_tops_over ["bottom", "shares"] []
  g_p_tops_over : mg "tops_over" = some (.ref f_p_tops_over)
  f_p_minus : Addr
  d_p_minus : FuncData
  F_p_minus : Fun K "minus" "minus" s_p_minus f_p_minus d_p_minus
  b_p_minus : Binds K d_p_minus ["one", "other"] []
  g_p_minus : mg "minus" = some (.ref f_p_minus)
  f_p_are_shares : Addr
  d_p_are_shares : FuncData
  F_p_are_shares : Fun K "are_shares" "are_shares" s_p_are_shares f_p_are_shares d_p_are_shares
  b_p_are_shares : Binds K d_p_are_shares ["thing", "many"] []
  g_p_are_shares : mg "are_shares" = some (.ref f_p_are_shares)
  f_p_are_prices : Addr
  d_p_are_prices : FuncData
  F_p_are_prices : Fun K "are_prices" "are_prices" s_p_are_prices f_p_are_prices d_p_are_prices
  b_p_are_prices : Binds K d_p_are_prices ["thing", "costs"] []
  g_p_are_prices : mg "are_prices" = some (.ref f_p_are_prices)
  f_p_joined : Addr
  d_p_joined : FuncData
  F_p_joined : Fun K "joined" "joined" s_p_joined f_p_joined d_p_joined
  b_p_joined : Binds K d_p_joined ["rows"] []
  g_p_joined : mg "joined" = some (.ref f_p_joined)
  f_p_weighed : Addr
  d_p_weighed : FuncData
  F_p_weighed : Fun K "weighed" "weighed" s_p_weighed f_p_weighed d_p_weighed
  b_p_weighed : Binds K d_p_weighed ["shares", "others"] []
  g_p_weighed : mg "weighed" = some (.ref f_p_weighed)
  f_p_cost_of : Addr
  d_p_cost_of : FuncData
  F_p_cost_of : Fun K "cost_of" "cost_of" s_p_cost_of f_p_cost_of d_p_cost_of
  b_p_cost_of : Binds K d_p_cost_of ["costs", "plan"] []
  g_p_cost_of : mg "cost_of" = some (.ref f_p_cost_of)
  f_p_brought : Addr
  d_p_brought : FuncData
  F_p_brought : Fun K "brought" "brought" s_p_brought f_p_brought d_p_brought
  b_p_brought : Binds K d_p_brought ["prices", "first", "second"] []
  g_p_brought : mg "brought" = some (.ref f_p_brought)
  f_l_well : Addr
  d_l_well : FuncData
  F_l_well : Fun K "_law_well" "_law_well" s_l_well f_l_well d_l_well
  b_l_well : Binds K d_l_well ["_law_cell"] []
  g_l_well : mg "_law_well" = some (.ref f_l_well)
  f_l_draw : Addr
  d_l_draw : FuncData
  F_l_draw : Fun K "_law_draw" "_law_draw" s_l_draw f_l_draw d_l_draw
  b_l_draw : Binds K d_l_draw ["_law_well_here", "_law_many"] []
  g_l_draw : mg "_law_draw" = some (.ref f_l_draw)
  f_l_one : Addr
  d_l_one : FuncData
  F_l_one : Fun K "_law_one" "_law_one" s_l_one f_l_one d_l_one
  b_l_one : Binds K d_l_one ["_law_well_here", "_law_some"] []
  g_l_one : mg "_law_one" = some (.ref f_l_one)
  f_l_low : Addr
  d_l_low : FuncData
  F_l_low : Fun K "_law_low" "_law_low" s_l_low f_l_low d_l_low
  b_l_low : Binds K d_l_low ["_law_top", "_law_bottom"] []
  g_l_low : mg "_law_low" = some (.ref f_l_low)
  f_l_pair : Addr
  d_l_pair : FuncData
  F_l_pair : Fun K "_law_pair" "_law_pair" s_l_pair f_l_pair d_l_pair
  b_l_pair : Binds K d_l_pair ["_law_share"] []
  g_l_pair : mg "_law_pair" = some (.ref f_l_pair)
  f_l_heap : Addr
  d_l_heap : FuncData
  F_l_heap : Fun K "_law_heap" "_law_heap" s_l_heap f_l_heap d_l_heap
  b_l_heap : Binds K d_l_heap ["_law_well_here", "_law_many"] []
  g_l_heap : mg "_law_heap" = some (.ref f_l_heap)
  f_l_costs : Addr
  d_l_costs : FuncData
  F_l_costs : Fun K "_law_costs" "_law_costs" s_l_costs f_l_costs d_l_costs
  b_l_costs : Binds K d_l_costs ["_law_well_here", "_law_here", "_law_there"] []
  g_l_costs : mg "_law_costs" = some (.ref f_l_costs)
  f_l_shares : Addr
  d_l_shares : FuncData
  F_l_shares : Fun K "_law_shares" "_law_shares" s_l_shares f_l_shares d_l_shares
  b_l_shares : Binds K d_l_shares ["_law_pairs"] []
  g_l_shares : mg "_law_shares" = some (.ref f_l_shares)
  f_l_rows : Addr
  d_l_rows : FuncData
  F_l_rows : Fun K "_law_rows" "_law_rows" s_l_rows f_l_rows d_l_rows
  b_l_rows : Binds K d_l_rows ["_law_rows_here"] []
  g_l_rows : mg "_law_rows" = some (.ref f_l_rows)
  f_l_added : Addr
  d_l_added : FuncData
  F_l_added : Fun K "_law_added" "_law_added" s_l_added f_l_added d_l_added
  b_l_added : Binds K d_l_added ["_law_one_here", "_law_other"] []
  g_l_added : mg "_law_added" = some (.ref f_l_added)
  f_l_total : Addr
  d_l_total : FuncData
  F_l_total : Fun K "_law_total" "_law_total" s_l_total f_l_total d_l_total
  b_l_total : Binds K d_l_total ["_law_pairs"] []
  g_l_total : mg "_law_total" = some (.ref f_l_total)
  f_l_by : Addr
  d_l_by : FuncData
  F_l_by : Fun K "_law_by" "_law_by" s_l_by f_l_by d_l_by
  b_l_by : Binds K d_l_by ["_law_one_here", "_law_other"] []
  g_l_by : mg "_law_by" = some (.ref f_l_by)
  f_l_below : Addr
  d_l_below : FuncData
  F_l_below : Fun K "_law_below" "_law_below" s_l_below f_l_below d_l_below
  b_l_below : Binds K d_l_below ["_law_one_here", "_law_other"] []
  g_l_below : mg "_law_below" = some (.ref f_l_below)
  f_l_filled : Addr
  d_l_filled : FuncData
  F_l_filled : Fun K "_law_filled" "_law_filled" s_l_filled f_l_filled d_l_filled
  b_l_filled : Binds K d_l_filled ["_law_well_here", "_law_first", "_law_second"] []
  g_l_filled : mg "_law_filled" = some (.ref f_l_filled)
  f_l_cost : Addr
  d_l_cost : FuncData
  F_l_cost : Fun K "_law_cost" "_law_cost" s_l_cost f_l_cost d_l_cost
  b_l_cost : Binds K d_l_cost ["_law_costs_here", "_law_plan"] []
  g_l_cost : mg "_law_cost" = some (.ref f_l_cost)
  f_l_less : Addr
  d_l_less : FuncData
  F_l_less : Fun K "_law_less" "_law_less" s_l_less f_l_less d_l_less
  b_l_less : Binds K d_l_less ["_law_one_here", "_law_other"] []
  g_l_less : mg "_law_less" = some (.ref f_l_less)
  f_l_prices : Addr
  d_l_prices : FuncData
  F_l_prices : Fun K "_law_prices" "_law_prices" s_l_prices f_l_prices d_l_prices
  b_l_prices : Binds K d_l_prices ["_law_well_here", "_law_costs_here"] []
  g_l_prices : mg "_law_prices" = some (.ref f_l_prices)
  f_l_due : Addr
  d_l_due : FuncData
  F_l_due : Fun K "_law_due" "_law_due" s_l_due f_l_due d_l_due
  b_l_due : Binds K d_l_due ["_law_costs_here", "_law_prices_here"] []
  g_l_due : mg "_law_due" = some (.ref f_l_due)
  f_l_otherwise : Addr
  d_l_otherwise : FuncData
  F_l_otherwise : Fun K "_law_otherwise" "_law_otherwise" s_l_otherwise f_l_otherwise d_l_otherwise
  b_l_otherwise : Binds K d_l_otherwise ["_law_well_here", "_law_prices_here"] []
  g_l_otherwise : mg "_law_otherwise" = some (.ref f_l_otherwise)
  f_l_made : Addr
  d_l_made : FuncData
  F_l_made : Fun K "_law_made" "_law_made" s_l_made f_l_made d_l_made
  b_l_made : Binds K d_l_made ["_law_prices_here"] []
  g_l_made : mg "_law_made" = some (.ref f_l_made)
  f_l_summed : Addr
  d_l_summed : FuncData
  F_l_summed : Fun K "_law_summed" "_law_summed" s_l_summed f_l_summed d_l_summed
  b_l_summed : Binds K d_l_summed ["_law_well_here", "_law_costs_here", "_law_heaps", "_law_prices_here"] []
  g_l_summed : mg "_law_summed" = some (.ref f_l_summed)
  f_law : Addr
  d_law : FuncData
  F_law : Fun K "law" "law" s_law f_law d_law
  b_law : Binds K d_law ["_law_script"] []
  g_law : mg "law" = some (.ref f_law)
  cl_Share : Cls K c_Share
  M_Share : Mk K c_Share f_m_Share_init
  ti_Share : TyIns K c_Share
  n_Share_top : NoAttr K c_Share "top"
  n_Share_bottom : NoAttr K c_Share "bottom"
  h_m_Share_eq : Meth K c_Share "__eq__" f_m_Share_eq
  h_m_Share_str : Meth K c_Share "__str__" f_m_Share_str
  ne_Share : PySem.W.findIn K (.ref c_Share) "__ne__" = some (some (.builtin "object.__ne__"))
  nf_Share_int : PySem.W.notFirst K c_Share (.type "int") = true
  nf_Share_str : PySem.W.notFirst K c_Share (.type "str") = true
  nf_Share_NoneType : PySem.W.notFirst K c_Share (.type "NoneType") = true
  nf_Share_list : PySem.W.notFirst K c_Share (.type "list") = true
  nf_Share_tuple : PySem.W.notFirst K c_Share (.type "tuple") = true
  nf_Share_dict : PySem.W.notFirst K c_Share (.type "dict") = true
  nf_Share_bool : PySem.W.notFirst K c_Share (.type "bool") = true
  k_Share : PySem.W.kitOne K (.ref c_Share) (.ref c_Share) = some true
  k_Share_int : PySem.W.kitOne K (.type "int") (.ref c_Share) = some false
  k_Share_str : PySem.W.kitOne K (.type "str") (.ref c_Share) = some false
  k_Share_NoneType : PySem.W.kitOne K (.type "NoneType") (.ref c_Share) = some false
  k_Share_list : PySem.W.kitOne K (.type "list") (.ref c_Share) = some false
  k_Share_tuple : PySem.W.kitOne K (.type "tuple") (.ref c_Share) = some false
  k_Share_dict : PySem.W.kitOne K (.type "dict") (.ref c_Share) = some false
  k_Share_bool : PySem.W.kitOne K (.type "bool") (.ref c_Share) = some false
  u_PIECE_LENGTH : Value
  g_PIECE_LENGTH : mg "PIECE_LENGTH" = some u_PIECE_LENGTH
  r_PIECE_LENGTH : RelV (.int 64) u_PIECE_LENGTH
  z_divmod : mg "divmod" = none
  z_str : mg "str" = none
  z_isinstance : mg "isinstance" = none
  z_int : mg "int" = none
  z_bool : mg "bool" = none
  z_abs : mg "abs" = none
  z_list : mg "list" = none
  z_all : mg "all" = none
  z_len : mg "len" = none
  z_tuple : mg "tuple" = none
  z_enumerate : mg "enumerate" = none
  z_sum : mg "sum" = none
  z_zip : mg "zip" = none
  z_range : mg "range" = none
  z_max : mg "max" = none
  kit_Share_list : PySem.W.kitOne K (.ref c_Share) (.type "list") = some false
  kit_Share_tuple : PySem.W.kitOne K (.ref c_Share) (.type "tuple") = some false
end Fb

namespace Fb
open PySem PySem.Spec PyProof.Rows L2
section
variable {P : Program} {w : World} {K : PySem.W.Frag} {mg : Str → Option Value} {base : Heap}
/-! ### is_whole, of whole numbers -/
def spWhole : Sp := fun vs H Q _ => ∃ i : Int, vs = [.int i] ∧ Q (.bl true) H
theorem ok_p_is_whole (T : Txt K mg) : FnOk P w K mg base CX0 1 T.f_p_is_whole T.d_p_is_whole ["thing"] spWhole := by
  refine T.F_p_is_whole.ok sc_p_is_whole (fun vs H Q E h => ?_) (fun cdv A outer s H vs Q E hr h => ?_)
  · obtain ⟨i, rfl, _⟩ := h
    rfl
  · obtain ⟨i, rfl, q⟩ := h
    refine ⟨_, (pss_one (ps_ret (pe_and (pe_callB call_isi (by rfl) T.z_isinstance (by decide +kernel) (pa_cons (pv 0) (pa_cons (pe_bltn (v := .ty "int") (by rfl) T.z_int (by decide +kernel) rfl) pa_nil))) (pe_one (pe_not (pe_callB call_isi (by rfl) T.z_isinstance (by decide +kernel) (pa_cons (pv 0) (pa_cons (pe_bltn (v := .ty "bool") (by rfl) T.z_bool (by decide +kernel) rfl) pa_nil)))))))), ?_⟩
    refine ⟨_, rfl, _, _, _, _, true, rfl, .ty _, .base (.int i), kit_ty (by decide +kernel), true, rfl, ?_⟩
    refine iteT ?_
    exact ⟨_, rfl, _, _, _, _, false, rfl, .ty _, .base (.int i), kit_ty (by decide +kernel), false, rfl, q⟩
/-! ### common_part -/
def spGcd : Sp := fun vs H Q _ => ∃ a b : Int, vs = [.int a, .int b] ∧ Q (.int (Int.gcd a b : Int)) H
theorem ok_p_common_part (T : Txt K mg) : FnOk P w K mg base CX0 1 T.f_p_common_part T.d_p_common_part ["one", "other"] spGcd := by
  refine T.F_p_common_part.ok sc_p_common_part (fun vs H Q E h => ?_) (fun cdv A outer s H vs Q E hr h => ?_)
  · obtain ⟨a, b, rfl, _⟩ := h
    rfl
  · obtain ⟨a, b, rfl, q⟩ := h
    refine ⟨_, (pss_cons (ps_while PassesOwn.never (pt_cmpR op_ne (pv 1) pe_int (nomark _))
  (pss_one (ps_par (i := 0) (j := 1) (by rfl) sc_p_common_part.nd rfl rfl (by decide) rfl rfl (pa_cons (pv 1) (pa_cons (pe_op op_modN (pv 0) (pv 1)) pa_nil)) (by rfl))))
 (pss_one (ps_ret (pe_callB call_abs (by rfl) T.z_abs (by decide +kernel) (pa_cons (pv 0) pa_nil))))), ?_⟩
    refine ⟨fun m σ H' => ∃ x y : Int, σ = [some (.int x), some (.int y)] ∧ m = y.natAbs ∧ Int.gcd x y = Int.gcd a b ∧ H' = H, ⟨_, a, b, rfl, rfl, rfl, rfl⟩, fun m σ H' hW => ?_⟩
    obtain ⟨x, y, rfl, rfl, hg, rfl⟩ := hW
    refine ⟨_, rfl, rfl, _, rfl, ?_⟩
    by_cases hy : y = 0
    · subst hy
      refine iteF ?_
      refine ⟨_, rfl, x, rfl, ?_⟩
      have e : (if x < 0 then -x else x) = (Int.gcd a b : Int) := by
        rw [← hg, Int.gcd_zero_right]
        split <;> omega
      rw [e]
      exact q
    · have ne : (!decide (V.int y = V.int 0)) = true := by
        rw [decide_eq_false (fun z => hy (V.int.inj z))]
        rfl
      rw [ne]
      refine iteT ?_
      refine ⟨fun σ' H'' => σ' = [some (.int y), some (.int (x.fmod y))] ∧ H'' = H', fun σ' H'' h => ?_, ?_⟩
      · obtain ⟨rfl, rfl⟩ := h
        exact ⟨_, fmod_lt x y hy, y, _, rfl, rfl, by rw [gcd_step, hg], rfl⟩
      · exact ⟨_, rfl, _, rfl, _, rfl, _, _, rfl, rfl, hy, _, _, rfl, rfl, rfl⟩
theorem log2_mono {a b : Nat} (h : a ≤ b) : a.log2 ≤ b.log2 := by
  by_cases ha : a = 0
  · subst ha
    simp
  · have hb : b ≠ 0 := by omega
    rw [Nat.le_log2 hb]
    exact Nat.le_trans (Nat.log2_self_le ha) h
theorem nat_abs {n m : Nat} (h : n < m) : (n : Int).natAbs < m := h
end

end Fb

namespace Fb
open PySem PySem.Spec PyProof.Rows L2
section
variable {P : Program} {w : World} {K : PySem.W.Frag} {mg : Str → Option Value} {base : Heap}
/-! ### Share(top, bottom) -/
def spShare (C : Addr) : Sp := fun vs H Q _ => ∃ (p dx : Addr) (t b : Int), vs = [.ref p, .int t, .int b] ∧ H p = some (.ins C dx []) ∧ b ≠ 0 ∧ b.natAbs.log2 < 9000 ∧
  ∀ H', (∀ a o, H a = some o → a ≠ p → H' a = some o) → H' p = some (.ins C dx (flds (Rat.divInt t b))) → Q .non H'
theorem ok_m_Share_init (T : Txt K mg) : FnOk P w K mg base CX0 2 T.f_m_Share_init T.d_m_Share_init ["self", "top", "bottom"] (spShare T.c_Share) := by
  refine T.F_m_Share_init.ok sc_m_Share_init (fun vs H Q E h => ?_) (fun cdv A outer s H vs Q E hr h => ?_)
  · obtain ⟨p, dx, t, b, rfl, _⟩ := h
    rfl
  · obtain ⟨p, dx, t, b, rfl, hp, hb, hl, q⟩ := h
    refine ⟨_, PSs.nox (pss_cons (ps_if (PW.pt (pw_or (pt_not (pt_val (pe_call (ok_p_is_whole T) (hr.mono (by decide)) (by rfl) T.g_p_is_whole T.F_p_is_whole.kp T.b_p_is_whole .nil pass0 (pa_cons (pv 1) pa_nil)))) (pw_or (pt_not (pt_val (pe_call (ok_p_is_whole T) (hr.mono (by decide)) (by rfl) T.g_p_is_whole T.F_p_is_whole.kp T.b_p_is_whole .nil pass0 (pa_cons (pv 2) pa_nil)))) (pw_or1 (pt_cmpR op_eq (pv 2) pe_int (nomark _))))))
  (pss_one ps_never)
  pss_nil)
 (pss_cons (ps_set (i := 3) sc_m_Share_init.nd rfl (.inl rfl) (pe_call (ok_p_common_part T) (hr.mono (by decide)) (by rfl) T.g_p_common_part T.F_p_common_part.kp T.b_p_common_part .nil pass0 (pa_cons (pv 1) (pa_cons (pv 2) pa_nil))))
 (pss_cons (ps_if (pt_cmpR op_lt (pv 2) pe_int (nomark _))
  (pss_one (ps_set (i := 3) sc_m_Share_init.nd rfl (.inl rfl) (pe_un un_neg (pv 3))))
  pss_nil)
 (pss_cons (ps_fld (pv 0) (pe_op op_fdivZ (pv 1) (pv 3)) rfl)
 (pss_one (ps_fld (pv 0) (pe_op op_fdivZ (pv 2) (pv 3)) rfl)))))), ?_⟩
    -- the test is false
    refine ⟨_, rfl, t, rfl, true, rfl, ?_⟩
    refine iteF ?_
    refine ⟨_, rfl, b, rfl, true, rfl, ?_⟩
    refine iteF ?_
    refine ⟨_, rfl, rfl, _, rfl, ?_⟩
    rw [decide_eq_false (fun z => hb (V.int.inj z))]
    refine iteF ?_
    -- common
    refine ⟨_, rfl, _, rfl, t, b, rfl, ?_⟩
    have fin : ∀ (c : Int), c = cut t b → (sFld K (tVar 0) (tOp (rI CDivZ fun i j => .int (i.fdiv j)) (tVar 1) (tVar 3)) "top") { nx := (sFld K (tVar 0) (tOp (rI CDivZ fun i j => .int (i.fdiv j)) (tVar 2) (tVar 3)) "bottom") { nx := fun _ H' => Q .non H', rt := Q }, rt := Q } [some (.ref p), some (.int t), some (.int b), some (.int c)] H := by
      intro c hc
      subst hc
      have hd : ∀ i, CDivZ i (cut t b) := fun _ => ⟨cut_ne hb, Nat.lt_of_le_of_lt (log2_mono (cut_le hb)) hl⟩
      refine ⟨_, rfl, _, rfl, _, _, rfl, rfl, hd _, _, rfl, p, T.c_Share, dx, [], rfl, hp, T.cl_Share, T.n_Share_top, (by show 0 < 1000; decide), ?_⟩
      refine ⟨_, rfl, _, rfl, _, _, rfl, rfl, hd _, _, rfl, p, T.c_Share, dx, _, rfl, upd_same, T.cl_Share, T.n_Share_bottom, (by show 1 < 1000; decide), ?_⟩
      refine q _ (fun a o e ne => ?_) ?_
      · rw [upd_ne ne, upd_ne ne]
        exact e
      · dsimp only
        rw [upd_same, cut_top hb, cut_bottom hb]
        rfl
    refine ⟨_, rfl, _, _, rfl, rfl, _, rfl, ite2 (fun h => ?_) (fun h => ?_)⟩
    · have h' : b < 0 := of_decide_eq_true h
      refine ⟨_, rfl, _, rfl, ?_⟩
      exact fin _ (by unfold cut; rw [if_pos h'])
    · have h' : ¬ b < 0 := fun z => h (decide_eq_true z)
      exact fin _ (by unfold cut; rw [if_neg h'])
/-- Share(t, b) as its caller sees it -/
theorem mk_share {C : Addr} {H : Hp} {t b : Int} {Q : Addr → Hp → Prop} {E : XK} (hb : b ≠ 0) (hl : b.natAbs.log2 < 9000) (q : ∀ H' r, Same H H' → IsShare C H' (.ref r) (Rat.divInt t b) → Q r H') :
    ∀ x dx, H x = none → H dx = none → dx ≠ x → spShare C (.ref x :: ([.int t, .int b] ++ [])) (upd (upd H dx (.own x)) x (.ins C dx [])) (fun v H2 => v = .non ∧ Q x H2) E := by
  intro x dx nx ndx ne
  refine ⟨x, dx, t, b, rfl, upd_same, hb, hl, fun H' k e => ⟨rfl, q H' x (fun a o ea => ?_) ⟨x, dx, rfl, e⟩⟩⟩
  have h1 : a ≠ x := ne_of_none ea nx
  refine k a o ?_ h1
  rw [upd_ne h1, upd_ne (ne_of_none ea ndx)]
  exact ea
end

end Fb

namespace Fb
open PySem PySem.Spec PyProof.Rows L2
section
variable {P : Program} {w : World} {K : PySem.W.Frag} {mg : Str → Option Value} {base : Heap}
/-! ### the class's own == -/
def spEq (K : PySem.W.Frag) (C : Addr) : Sp := fun vs H Q _ => ∃ (v u : V) (x : Rat), vs = [v, u] ∧ IsShare C H v x ∧
  ((∃ y : Rat, IsShare C H u y ∧ Q (.bl (decide (x = y))) H) ∨ ∃ t, TyX K H u t ∧ PySem.W.kitOne K t (.ref C) = some false ∧ Q (.bl false) H)
theorem tyShare (T : Txt K mg) {H : Hp} {p dx : Addr} {fs : List (Str × V)} (h : H p = some (.ins T.c_Share dx fs)) : TyX K H (.ref p) (.ref T.c_Share) :=
  .base (.ins h T.cl_Share T.ti_Share.ha T.ti_Share.hn T.ti_Share.htk T.ti_Share.hm)
theorem ok_m_Share_eq (T : Txt K mg) : FnOk P w K mg base CX0 1 T.f_m_Share_eq T.d_m_Share_eq ["self", "other"] (spEq K T.c_Share) := by
  refine T.F_m_Share_eq.ok sc_m_Share_eq (fun vs H Q E h => ?_) (fun cdv A outer s H vs Q E hr h => ?_)
  · obtain ⟨v, u, x, rfl, _⟩ := h
    rfl
  · obtain ⟨v, u, x, rfl, ⟨p, dx, rfl, hx⟩, h⟩ := h
    refine ⟨_, (pss_one (ps_ret (pe_and (pe_callB call_isi (by rfl) T.z_isinstance (by decide +kernel) (pa_cons (pv 1) (pa_cons (pe_glob (v := .ref T.c_Share) (by rfl) T.g_Share rfl) pa_nil))) (pe_and (pe_cmpR op_eq (pe_fld (pv 0) rfl) (pe_fld (pv 1) rfl) (nomark _)) (pe_one (pe_cmpR op_eq (pe_fld (pv 0) rfl) (pe_fld (pv 1) rfl) (nomark _))))))), ?_⟩
    rcases h with ⟨y, ⟨p', dx', rfl, hy⟩, q⟩ | ⟨t, ty, kt, q⟩
    · refine ⟨_, rfl, _, _, _, _, true, rfl, .own _, tyShare T hy, T.k_Share, true, rfl, iteT ?_⟩
      refine ⟨_, rfl, _, _, _, _, _, rfl, hx, T.cl_Share, T.n_Share_top, flds_top _, _, rfl, _, _, _, _, _, rfl, hy, T.cl_Share, T.n_Share_top, flds_top _, rfl, _, rfl, ?_⟩
      by_cases h1 : x.num = y.num
      · rw [h1, decide_eq_true rfl]
        refine iteT ?_
        refine ⟨_, rfl, _, _, _, _, _, rfl, hx, T.cl_Share, T.n_Share_bottom, flds_bottom _, _, rfl, _, _, _, _, _, rfl, hy, T.cl_Share, T.n_Share_bottom, flds_bottom _, rfl, ?_⟩
        have e : decide (V.int (x.den : Int) = V.int (y.den : Int)) = decide (x = y) := by
          refine decide_eq_decide.mpr ⟨fun z => ?_, fun z => by rw [z]⟩
          have z' : (x.den : Int) = (y.den : Int) := V.int.inj z
          exact Rat.ext h1 (by omega)
        rw [e]
        exact q
      · rw [decide_eq_false (fun z => h1 (V.int.inj z))]
        refine iteF ?_
        have e : decide (x = y) = false := decide_eq_false fun z => h1 (by rw [z])
        rw [e] at q
        exact q
    · exact ⟨_, rfl, _, _, _, _, false, rfl, .own _, ty, kt, false, rfl, iteF q⟩
/-- == or != of two shares -/
theorem eqS (T : Txt K mg) {H : Hp} {v u : V} {x y : Rat} {g : Bool → Bool} {Q : VK} (hx : IsShare T.c_Share H v x) (hy : IsShare T.c_Share H u y) (q : Q (.bl (g (decide (x = y)))) H) : rOwn2 K T.c_Share (spEq K T.c_Share) g v u H Q := by
  obtain ⟨p, dx, rfl, h⟩ := id hx
  obtain ⟨p', dx', rfl, h'⟩ := id hy
  exact ⟨p, dx, _, _, rfl, h, tyShare T h', by simp [PySem.W.notFirst], _, _, x, rfl, hx, .inl ⟨y, hy, _, rfl, q⟩⟩
/-- of a share and what is none -/
theorem eqN (T : Txt K mg) {H : Hp} {v u : V} {x : Rat} {t : Value} {g : Bool → Bool} {Q : VK} (hx : IsShare T.c_Share H v x) (ty : TyX K H u t) (nf : PySem.W.notFirst K T.c_Share t = true) (kt : PySem.W.kitOne K t (.ref T.c_Share) = some false) (q : Q (.bl (g false)) H) :
    rOwn2 K T.c_Share (spEq K T.c_Share) g v u H Q := by
  obtain ⟨p, dx, rfl, h⟩ := id hx
  exact ⟨p, dx, _, _, rfl, h, ty, nf, _, _, x, rfl, hx, .inr ⟨t, ty, kt, _, rfl, q⟩⟩
end

end Fb

namespace Fb
open PySem PySem.Spec PyProof.Rows L2
section
variable {P : Program} {w : World} {K : PySem.W.Frag} {mg : Str → Option Value} {base : Heap}
/-! ### common_multiple -/
def spCm : Sp := fun vs H Q _ => ∃ L d : Nat, vs = [.int L, .int d] ∧ 0 < L ∧ 0 < d ∧ L < 2 ^ 8001 ∧ d < 2 ^ 8001 ∧ Q (.int ((L * (d / Nat.gcd L d) : Nat))) H
theorem ok_p_common_multiple (T : Txt K mg) : FnOk P w K mg base CX0 2 T.f_p_common_multiple T.d_p_common_multiple ["one", "other"] spCm := by
  refine T.F_p_common_multiple.ok sc_p_common_multiple (fun vs H Q E h => ?_) (fun cdv A outer s H vs Q E hr h => ?_)
  · obtain ⟨L, d, rfl, _⟩ := h
    rfl
  · obtain ⟨L, d, rfl, L0, d0, hL, hd, q⟩ := h
    refine ⟨_, (pss_one (ps_ret (pe_op op_mulW (pe_op op_fdivW (pv 0) (pe_call (ok_p_common_part T) (hr.mono (by decide)) (by rfl) T.g_p_common_part T.F_p_common_part.kp T.b_p_common_part .nil pass0 (pa_cons (pv 0) (pa_cons (pv 1) pa_nil)))) (pv 1)))), ?_⟩
    have hg : 0 < Nat.gcd L d := Nat.gcd_pos_of_pos_left _ L0
    have hgle : Nat.gcd L d ≤ L := Nat.le_of_dvd L0 (Nat.gcd_dvd_left _ _)
    refine ⟨_, rfl, _, rfl, _, rfl, _, _, rfl, _, _, rfl, rfl, wide_div (b := 8001) ?_ ?_ (by decide) (by decide), _, rfl, _, _, rfl, rfl, wide_mul (a := 8001) (b := 8001) ?_ (nat_abs hd) (by decide) (by decide) (by decide), ?_⟩
    · show (0 : Int) < ((Int.gcd (L : Nat) (d : Nat) : Nat) : Int)
      rw [Int.gcd_natCast_natCast]
      omega
    · show ((Int.gcd (L : Nat) (d : Nat) : Nat) : Int).natAbs < 2 ^ 8001
      rw [Int.gcd_natCast_natCast]
      exact nat_abs (Nat.lt_of_le_of_lt hgle hL)
    · show (((L : Int) / ((Int.gcd (L : Nat) (d : Nat) : Nat) : Int))).natAbs < 2 ^ 8001
      rw [Int.gcd_natCast_natCast, ← Int.natCast_ediv]
      exact nat_abs (Nat.lt_of_le_of_lt (Nat.div_le_self _ _) hL)
    · have e : ((L : Int) / ((Int.gcd (L : Nat) (d : Nat) : Nat) : Int)) * (d : Int) = ((L * (d / Nat.gcd L d) : Nat) : Int) := by
        rw [Int.gcd_natCast_natCast, ← Int.natCast_ediv, ← Int.natCast_mul]
        congr 1
        rw [Nat.div_mul_right_comm (Nat.gcd_dvd_left L d), ← Nat.mul_div_assoc _ (Nat.gcd_dvd_right L d)]
      dsimp only
      rw [e]
      exact q
/-! ### common_bottom: n bounds each share, N their number; both are told by the caller -/
def spCb (C : Addr) : Sp := fun vs H Q _ => ∃ (v : V) (qs : List Rat), vs = [v] ∧ IsShares C H v qs ∧ lcmOn 1 qs < 2 ^ 8001 ∧ Q (.int (lcmOn 1 qs : Nat)) H
theorem lcmOn_snoc : ∀ (a : List Rat) (L : Nat) (q : Rat), lcmOn L (a ++ [q]) = lcmOn L a * (q.den / Nat.gcd (lcmOn L a) q.den)
  | [], _, _ => rfl
  | x :: r, L, q => lcmOn_snoc r _ q
theorem lcmOn_app : ∀ (a b : List Rat) (L : Nat), lcmOn L (a ++ b) = lcmOn (lcmOn L a) b
  | [], _, _ => rfl
  | x :: r, b, L => lcmOn_app r b _
theorem lcmOn_take (qs : List Rat) (i : Nat) : lcmOn 1 (qs.take i) ≤ lcmOn 1 qs := by
  have e := lcmOn_app (qs.take i) (qs.drop i) 1
  rw [List.take_append_drop] at e
  rw [e]
  exact Nat.le_of_dvd (lcmOn_pos _ _ (lcmOn_pos _ _ (by decide))) (lcmOn_dvd _ _)
theorem Few.all {n N : Nat} {qs : List Rat} (f : Few n N qs) : lcmOn 1 qs < 2 ^ 8001 := by
  have h := lcmOn_lt qs 1 n 1 (fun q hq => (f.bd q hq).den) (by decide)
  refine Nat.lt_of_lt_of_le h (Nat.pow_le_pow_right (by decide) ?_)
  have := Nat.mul_le_mul_left n f.len
  have := f.small
  omega
theorem Few.nle {n N : Nat} {qs : List Rat} (f : Few n N qs) (h : 0 < qs.length) : n ≤ 8000 := by
  have h1 : 1 ≤ N := Nat.le_trans h f.len
  have := Nat.mul_le_mul_left n h1
  have := f.small
  omega
theorem ok_p_common_bottom (T : Txt K mg) : FnOk P w K mg base CX0 3 T.f_p_common_bottom T.d_p_common_bottom ["shares"] (spCb T.c_Share) := by
  refine T.F_p_common_bottom.ok sc_p_common_bottom (fun vs H Q E h => ?_) (fun cdv A outer s H vs Q E hr h => ?_)
  · obtain ⟨v, qs, rfl, _⟩ := h
    rfl
  · obtain ⟨v, qs, rfl, ⟨p, ws, rfl, hp, aa⟩, hL, q⟩ := h
    refine ⟨_, (pss_cons (ps_set (i := 1) sc_p_common_bottom.nd rfl (.inl rfl) pe_int)
 (pss_cons (ps_for PassesOwn.never rfl (pi_list (pv 0)) (pg_name (i := 2) sc_p_common_bottom.nd rfl (.inl rfl))
  (pss_one (ps_set (i := 1) sc_p_common_bottom.nd rfl (.inl rfl) (pe_call (ok_p_common_multiple T) (hr.mono (by decide)) (by rfl) T.g_p_common_multiple T.F_p_common_multiple.kp T.b_p_common_multiple .nil pass0 (pa_cons (pv 1) (pa_cons (pe_fld (pv 2) rfl) pa_nil))))))
 (pss_one (ps_ret (pv 1))))), ?_⟩
    refine ⟨_, rfl, p, rfl, ⟨_, SqL.of hp⟩, for_list (K := K) (a := p) (xs := ws) (fun i σ H' => ∃ y, σ = [some (.ref p), some (.int (lcmOn 1 (qs.take i) : Nat)), y] ∧ H' = H) ⟨none, rfl, rfl⟩ (fun i σ H' _ h => ?_) (fun i x σ H' hi h => ?_) (fun σ H' h => ?_)⟩
    · obtain ⟨y, _, rfl⟩ := h
      exact SqL.of hp
    · obtain ⟨y, rfl, rfl⟩ := h
      obtain ⟨z, hz, px, dx, rfl, hx⟩ := aa.at hi
      have e : qs.take (i + 1) = qs.take i ++ [z] := by
        rw [List.take_add_one, hz]
        rfl
      have hl := Nat.lt_of_le_of_lt (lcmOn_take qs i) hL
      have hl2 := Nat.lt_of_le_of_lt (lcmOn_take qs (i + 1)) hL
      have hd : z.den ≤ lcmOn 1 (qs.take (i + 1)) := Nat.le_of_dvd (lcmOn_pos _ _ (by decide)) (den_dvd_lcm _ _ z (by rw [e]; simp))
      refine ⟨_, rfl, _, rfl, _, _, _, _, _, rfl, hx, T.cl_Share, T.n_Share_bottom, flds_bottom _, lcmOn 1 (qs.take i), z.den, rfl, lcmOn_pos _ _ (by decide), z.den_pos, hl, Nat.lt_of_le_of_lt hd hl2, ?_⟩
      refine ⟨some (.ref px), ?_, rfl⟩
      rw [e, lcmOn_snoc]
      rfl
    · obtain ⟨y, rfl, rfl⟩ := h
      refine ⟨_, rfl, ?_⟩
      rw [aa.1, List.take_length]
      exact q
def spTops (C : Addr) : Sp := fun vs H Q _ => ∃ (v : V) (L : Nat) (qs : List Rat) (n : Nat), vs = [.int L, v] ∧ IsShares C H v qs ∧ (∀ q ∈ qs, Bd n q) ∧ qs.length ≤ 999 ∧ n ≤ 9000 ∧ 0 < n ∧ L < 2 ^ 9000 ∧
  ∀ H' r, H r = none → Same H H' → H' r = some (.lst ((topsOf L qs).map V.int)) → Q (.ref r) H'
theorem ok_p_tops_over (T : Txt K mg) : FnOk P w K mg base CX0 1 T.f_p_tops_over T.d_p_tops_over ["bottom", "shares"] (spTops T.c_Share) := by
  refine T.F_p_tops_over.ok sc_p_tops_over (fun vs H Q E h => ?_) (fun cdv A outer s H vs Q E hr h => ?_)
  · obtain ⟨v, L, qs, n, rfl, _⟩ := h
    rfl
  · obtain ⟨v, L, qs, n, rfl, ⟨p, ws, rfl, hp, aa⟩, bd, hlen, hn, h0, hL, q⟩ := h
    refine ⟨_, (pss_one (ps_ret (pe_lc (own := [("share", 2)]) (g := (gName 2)) (tt := tYes) (by rfl) sc_p_tops_over.nd (pi_list (pv 1)) (blkOk_by (own := [("share", 2)]) (N := ["bottom", "shares", "share"]) (sc := defScope s_p_tops_over) (by decide +kernel)) (fun _ _ _ _ _ => by exact (pg_name (i := 2) sc_p_tops_over.nd rfl (.inl rfl))) (fun _ _ _ _ _ => by exact pts_nil) (fun _ _ _ _ _ => by exact (pe_op op_mulW (pe_fldK (K := K) rfl (pv 2) rfl) (pe_op op_fdivW (pv 0) (pe_fldK (K := K) rfl (pv 2) rfl))))))), ?_⟩
    refine ⟨_, rfl, p, rfl, ⟨_, SqL.of hp⟩, fun D nD => lc_all (K := K) (a := p) (xs := ws) (fun i y _ => ∃ z, qs[i]? = some z ∧ y = .int (z.num * ((L / z.den : Nat) : Int))) (fun _ _ _ _ _ h => h) nD (SqL.of hp) (by rw [aa.1]; omega) (fun i x H2 k hi s2 _ hk => ?_) (fun H2 ys s2 e l r => ?_)⟩
    · obtain ⟨z, hz, px, dx, rfl, hx⟩ := aa.at hi
      have bz := bd z (List.mem_of_getElem? hz)
      have hx2 := hid_same _ _ (s2 _ _ hx)
      refine ⟨rfl, _, rfl, _, _, _, _, _, rfl, hx2, T.cl_Share, T.n_Share_top, flds_top _, _, rfl, _, rfl, _, _, _, _, _, rfl, hx2, T.cl_Share, T.n_Share_bottom, flds_bottom _, _, _, rfl, rfl, wide_div (by have := z.den_pos; omega) (den_abs bz) h0 hn, _, _, rfl, rfl, wide_mul bz.num (b := 9000) ?_ h0 (by decide) (by omega), ?_⟩
      · show ((L : Int) / (z.den : Int)).natAbs < 2 ^ 9000
        rw [← Int.natCast_ediv]
        exact nat_abs (Nat.lt_of_le_of_lt (Nat.div_le_self _ _) hL)
      · refine hk _ _ (Same.refl _) ⟨z, hz, ?_⟩
        dsimp only
        rw [Int.natCast_ediv]
    · have e2 : ys = (topsOf L qs).map V.int := by
        refine List.ext_getElem? fun i => ?_
        by_cases hi : i < ys.length
        · obtain ⟨z, hz, hy⟩ := r i _ (List.getElem?_eq_getElem hi)
          rw [List.getElem?_eq_getElem hi, hy]
          unfold topsOf
          rw [List.map_map, List.getElem?_map, hz]
          rfl
        · rw [List.getElem?_eq_none (by omega), List.getElem?_eq_none]
          unfold topsOf
          rw [List.length_map, List.length_map, ← aa.1]
          omega
      rw [e2] at e
      exact q H2 D nD (s2.trans hid_same) e
end

end Fb

namespace Fb
open PySem PySem.Spec PyProof.Rows L2
section
variable {P : Program} {w : World} {K : PySem.W.Frag} {mg : Str → Option Value} {base : Heap}
/-! ### the law's well -/
def spWell : Sp := fun vs H Q _ => ∃ c : Int, vs = [.int c] ∧ ∀ a H', H a = none → Same H (hid a H') → WellAt H' a 1099511627776 → Q (.ref a) H'
theorem ok_l_well (T : Txt K mg) : FnOk P w K mg base CX0 1 T.f_l_well T.d_l_well ["_law_cell"] spWell := by
  refine T.F_l_well.ok sc_l_well (fun vs H Q E h => ?_) (fun cdv A outer s H vs Q E hr h => ?_)
  · obtain ⟨c, rfl, _⟩ := h
    rfl
  · obtain ⟨c, rfl, q⟩ := h
    refine ⟨_, (pss_one (ps_ret (pe_lst (pa_cons (pe_op op_mul (pv 0) (pe_callTy call_int1 (by rfl) T.z_int (by decide +kernel) (pa_cons (pe_cmpR op_ge (pv 0) (pe_op op_pow pe_int pe_int) (nomark _)) pa_nil))) (pa_cons (pe_op op_mod (pv 0) pe_int) (pa_cons pe_int pa_nil)))))), ?_⟩
    refine ⟨_, rfl, _, rfl, _, _, rfl, rfl, ⟨by decide, by decide, by decide⟩, _, _, rfl, rfl, .inr ⟨_, rfl, _, _, rfl, rfl, ?_, _, rfl, _, _, rfl, rfl, (by show (0 : Int) < 2147483647; decide), ?_⟩⟩
    · right
      split <;> decide
    · refine ⟨by show 3 ≤ sizeLine; decide, fun p np => ?_⟩
      refine q p _ np (fun b o e => ?_) ⟨_, _, _, upd_same, Int.emod_nonneg _ (by decide), Int.emod_lt_of_pos _ (by decide), by decide, by decide⟩
      rw [hid_upd, hid_ne (ne_of_none e np)]
      exact e
def spDraw : Sp := fun vs H Q _ => ∃ (a : Addr) (m : Int) (n : Nat), vs = [.ref a, .int m] ∧ WellAt H a (n + 1) ∧ 0 < m ∧ m.natAbs.log2 < 9000 ∧
  ∀ d H', 0 ≤ d → d < m → Same (hid a H) (hid a H') → WellAt H' a n → Q (.int d) H'
theorem ok_l_draw (T : Txt K mg) : FnOk P w K mg base CX0 1 T.f_l_draw T.d_l_draw ["_law_well_here", "_law_many"] spDraw := by
  refine T.F_l_draw.ok sc_l_draw (fun vs H Q E h => ?_) (fun cdv A outer s H vs Q E hr h => ?_)
  · obtain ⟨a, m, n, rfl, _⟩ := h
    rfl
  · obtain ⟨a, m, n, rfl, ⟨w0, w1, w2, hw, b1, b2, b3, b4⟩, m0, ml, q⟩ := h
    refine ⟨_, (pss_cons (ps_if (pt_cmpR op_gt (pe_ix ix_list (pv 0) pe_int (fun _ _ => rfl)) pe_int (nomark _))
  (pss_cons (ps_set (i := 2) sc_l_draw.nd rfl (.inl rfl) (pe_op op_mod (pe_ix ix_list (pv 0) pe_int (fun _ _ => rfl)) (pv 1)))
 (pss_cons (ps_asg (pe_op op_fdivW (pe_ix ix_list (pv 0) pe_int (fun _ _ => rfl)) (pv 1)) (pg_sub (pv 0) pe_int set_list))
 (pss_one (ps_ret (pv 2)))))
  pss_nil)
 (pss_cons (ps_asg (pe_op op_add (pe_ix ix_list (pv 0) pe_int (fun _ _ => rfl)) pe_int) (pg_sub (pv 0) pe_int set_list))
 (pss_cons (ps_set (i := 3) sc_l_draw.nd rfl (.inl rfl) (pe_ix ix_list (pe_lst (pa_cons pe_int (pa_cons pe_int (pa_cons pe_int (pa_cons pe_int (pa_cons pe_int (pa_cons pe_int (pa_cons pe_int pa_nil)))))))) (pe_op op_mod (pe_ix ix_list (pv 0) pe_int (fun _ _ => rfl)) pe_int) (fun _ _ => rfl)))
 (pss_cons (ps_set (i := 4) sc_l_draw.nd rfl (.inl rfl) (pe_op op_mod (pe_op op_pow (pe_op op_add (pe_op op_add (pe_ix ix_list (pv 0) pe_int (fun _ _ => rfl)) (pe_op op_mul pe_int (pe_ix ix_list (pv 0) pe_int (fun _ _ => rfl)))) pe_int) pe_int) (pv 3)))
 (pss_cons (ps_set (i := 4) sc_l_draw.nd rfl (.inl rfl) (pe_op op_mod (pe_op op_mul (pe_op op_add (pv 4) (pe_ix ix_list (pv 0) pe_int (fun _ _ => rfl))) (pe_op op_add (pe_op op_fdiv (pv 4) pe_int) pe_int)) (pv 3)))
 (pss_one (ps_ret (pe_op op_mod (pe_op op_fdiv (pv 4) pe_int) (pv 1))))))))), ?_⟩
    refine ⟨_, rfl, a, _, _, _, rfl, rfl, SqL.of hw, atI_nat (j := 0) rfl, _, _, rfl, rfl, _, rfl, ite2 (fun h => ?_) (fun h => ?_)⟩
    · refine ⟨_, rfl, a, _, _, _, rfl, rfl, SqL.of hw, atI_nat (j := 0) rfl, _, rfl, _, _, rfl, rfl, m0, ?_⟩
      refine ⟨_, rfl, a, _, _, _, rfl, rfl, SqL.of hw, atI_nat (j := 0) rfl, _, rfl, _, _, rfl, rfl, ⟨m0, ml⟩, _, rfl, a, _, _, 0, rfl, rfl, hw, rfl, ?_⟩
      refine ⟨_, rfl, ?_⟩
      refine q _ _ (Int.emod_nonneg _ (by omega)) (Int.emod_lt_of_pos _ m0) ?_ ⟨_, _, _, upd_same, b1, b2, b3, by omega⟩
      rw [hid_upd]
      exact Same.refl _
    · refine ⟨_, rfl, a, _, _, _, rfl, rfl, SqL.of hw, atI_nat (j := 2) rfl, _, _, rfl, rfl, _, rfl, a, _, _, 2, rfl, rfl, hw, rfl, ?_⟩
      have hw2 : (upd H a (.lst [.int w0, .int w1, .int (w2 + 1)])) a = some (.lst [.int w0, .int w1, .int (w2 + 1)]) := upd_same
      refine ⟨by show 7 ≤ sizeLine; decide, fun p np => ?_⟩
      have npa : p ≠ a := fun z => by
        rw [z, upd_same] at np
        cases np
      have hw3 : (upd (upd H a (.lst [.int w0, .int w1, .int (w2 + 1)])) p (.lst [V.int 2147483647, V.int 2147483629, V.int 2147483587, V.int 2147483579, V.int 2147483563, V.int 2147483549, V.int 2147483543])) a = some (.lst [.int w0, .int w1, .int (w2 + 1)]) := by
        rw [upd_ne npa.symm]
        exact upd_same
      obtain ⟨pr, hpr, p0, p1⟩ := primes7 (k := (w2 + 1) % 7) (Int.emod_nonneg _ (by decide)) (Int.emod_lt_of_pos _ (by decide))
      refine ⟨_, rfl, a, _, _, _, rfl, rfl, SqL.of hw3, atI_nat (j := 2) rfl, _, _, rfl, rfl, (by show (0 : Int) < 7; decide), p, _, _, _, rfl, rfl, sqL_new, hpr, ?_⟩
      refine ⟨_, rfl, a, _, _, _, rfl, rfl, SqL.of hw3, atI_nat (j := 1) rfl, _, rfl, a, _, _, _, rfl, rfl, SqL.of hw3, atI_nat (j := 2) rfl, _, _, rfl, rfl, .inl ⟨by decide, by decide⟩, _, _, rfl, rfl, _, _, rfl, rfl, _, _, rfl, rfl, ?_, _, rfl, _, _, rfl, rfl, p0, ?_⟩
      · exact pow_small (by omega) (by omega)
      · generalize hx : (w1 + 7919 * (w2 + 1) + 1) ^ (5 : Int).toNat % pr = x
        have x0 : 0 ≤ x := by
          rw [← hx]
          exact Int.emod_nonneg _ (by omega)
        have x1 : x < pr := by
          rw [← hx]
          exact Int.emod_lt_of_pos _ p0
        refine ⟨_, rfl, _, rfl, a, _, _, _, rfl, rfl, SqL.of hw3, atI_nat (j := 2) rfl, _, _, rfl, rfl, _, rfl, _, _, rfl, rfl, ⟨by decide, by decide⟩, _, _, rfl, rfl, _, _, rfl, rfl, .inl ⟨by omega, by omega⟩, _, rfl, _, _, rfl, rfl, p0, ?_⟩
        refine ⟨_, rfl, _, _, rfl, rfl, ⟨by decide, by decide⟩, _, rfl, _, _, rfl, rfl, m0, ?_⟩
        refine q _ _ (Int.emod_nonneg _ (by omega)) (Int.emod_lt_of_pos _ m0) ?_ ⟨_, _, _, hw3, b1, b2, by omega, by omega⟩
        rw [hid_updN npa, hid_upd]
        refine same_upd ?_
        rw [hid_ne npa]
        rw [upd_ne npa] at np
        exact np
def spOne (K : PySem.W.Frag) : Sp := fun vs H Q _ => ∃ (a p : Addr) (xs : List V) (n : Nat), vs = [.ref a, .ref p] ∧ WellAt H a (n + 1) ∧ SqL K (hid a H) p xs ∧ 0 < xs.length ∧ xs.length ≤ 1000 ∧
  ∀ (i : Nat) x H', xs[i]? = some x → Same (hid a H) (hid a H') → WellAt H' a n → Q x H'
theorem log_small {m : Nat} (h : m ≤ 1000) : ((m : Int)).natAbs.log2 < 9000 := by
  have h1 : ((m : Int)).natAbs.log2 ≤ (1000 : Nat).log2 := log2_mono (by omega)
  have h2 : (1000 : Nat).log2 < 9000 := by decide
  omega
theorem ok_l_one (T : Txt K mg) : FnOk P w K mg base CX0 2 T.f_l_one T.d_l_one ["_law_well_here", "_law_some"] (spOne K) := by
  refine T.F_l_one.ok sc_l_one (fun vs H Q E h => ?_) (fun cdv A outer s H vs Q E hr h => ?_)
  · obtain ⟨a, p, xs, n, rfl, _⟩ := h
    rfl
  · obtain ⟨a, p, xs, n, rfl, hw, hS, l0, l1, q⟩ := h
    refine ⟨_, (pss_one (ps_ret (pe_ix ix_list (pv 1) (pe_call (ok_l_draw T) (hr.mono (by decide)) (by rfl) T.g_l_draw T.F_l_draw.kp T.b_l_draw .nil pass0 (pa_cons (pv 0) (pa_cons (pe_callB call_len_seq (by rfl) T.z_len (by decide +kernel) (pa_cons (pv 1) pa_nil)) pa_nil))) (fun _ _ => rfl)))), ?_⟩
    refine ⟨_, rfl, _, rfl, _, rfl, p, xs, rfl, .inl (hid_same.seq hS), a, _, n, rfl, hw, by omega, log_small l1, fun d H' d0 d1 s1 w1 => ?_⟩
    obtain ⟨x, e1, e2⟩ := atI_get d0 d1
    exact ⟨p, xs, d, x, rfl, rfl, (s1.trans hid_same).seq hS, e1, q _ x H' e2 s1 w1⟩
end

end Fb

namespace Fb
open PySem PySem.Spec PyProof.Rows L2
section
variable {P : Program} {w : World} {K : PySem.W.Frag} {mg : Str → Option Value} {base : Heap}
/-! ### the law's own lowest terms -/
def spLow : Sp := fun vs H Q _ => ∃ (t b : Int), vs = [.int t, .int b] ∧ b ≠ 0 ∧ b.natAbs.log2 < 9000 ∧
  ∀ H' r, Same H H' → IsTup2 H' r (Rat.divInt t b).num ((Rat.divInt t b).den : Int) → Q r H'
theorem ok_l_low (T : Txt K mg) : FnOk P w K mg base CX0 1 T.f_l_low T.d_l_low ["_law_top", "_law_bottom"] spLow := by
  refine T.F_l_low.ok sc_l_low (fun vs H Q E h => ?_) (fun cdv A outer s H vs Q E hr h => ?_)
  · obtain ⟨t, b, rfl, _⟩ := h
    rfl
  · obtain ⟨t, b, rfl, hb, hl, q⟩ := h
    refine ⟨_, (pss_cons (ps_par (i := 2) (j := 3) (by rfl) sc_l_low.nd rfl rfl (by decide) rfl rfl (pa_cons (pe_callB call_abs (by rfl) T.z_abs (by decide +kernel) (pa_cons (pv 0) pa_nil)) (pa_cons (pe_callB call_abs (by rfl) T.z_abs (by decide +kernel) (pa_cons (pv 1) pa_nil)) pa_nil)) (by rfl))
 (pss_cons (ps_while PassesOwn.never (pt_cmpR op_gt (pv 3) pe_int (nomark _))
  (pss_one (ps_par (i := 2) (j := 3) (by rfl) sc_l_low.nd rfl rfl (by decide) rfl rfl (pa_cons (pv 3) (pa_cons (pe_op op_mod (pv 2) (pv 3)) pa_nil)) (by rfl))))
 (pss_cons (ps_if (pt_cmpR op_lt (pv 1) pe_int (nomark _))
  (pss_one (ps_set (i := 2) sc_l_low.nd rfl (.inl rfl) (pe_op op_sub pe_int (pv 2))))
  pss_nil)
 (pss_one (ps_ret (pe_tup (pa_cons (pe_op op_fdivZ (pv 0) (pv 2)) (pa_cons (pe_op op_fdivZ (pv 1) (pv 2)) pa_nil)))))))), ?_⟩
    refine ⟨_, rfl, t, rfl, _, rfl, b, rfl, _, _, rfl, ?_⟩
    refine ⟨fun m σ H' => ∃ x y : Int, σ = [some (.int t), some (.int b), some (.int x), some (.int y)] ∧ m = y.toNat ∧ 0 ≤ x ∧ 0 ≤ y ∧ Int.gcd x y = Int.gcd t b ∧ H' = H, ⟨_, (if t < 0 then -t else t), (if b < 0 then -b else b), rfl, rfl, by split <;> omega, by split <;> omega, ?_, rfl⟩, fun m σ H' hW => ?_⟩
    · split <;> split <;> simp [Int.gcd_neg, Int.neg_gcd]
    · obtain ⟨x, y, rfl, rfl, x0, y0, hg, rfl⟩ := hW
      refine ⟨_, rfl, _, _, rfl, rfl, _, rfl, ite2 (fun h => ?_) (fun h => ?_)⟩
      · have hy : 0 < y := of_decide_eq_true h
        refine ⟨fun σ' H'' => σ' = [some (.int t), some (.int b), some (.int y), some (.int (x % y))] ∧ H'' = H', fun σ' H'' h => ?_, ?_⟩
        · obtain ⟨rfl, rfl⟩ := h
          have e1 := Int.emod_nonneg x (Int.ne_of_gt hy)
          have e2 := Int.emod_lt_of_pos x hy
          refine ⟨_, by omega, y, _, rfl, rfl, y0, e1, ?_, rfl⟩
          rw [← hg, ← gcd_step x y, Int.fmod_eq_emod_of_nonneg x y0]
        · exact ⟨_, rfl, _, rfl, _, rfl, _, _, rfl, rfl, hy, _, _, rfl, rfl, rfl⟩
      · have hy : y = 0 := by
          have : ¬ 0 < y := fun z => h (decide_eq_true z)
          omega
        subst hy
        have ex : x = (Int.gcd t b : Int) := by
          rw [← hg, Int.gcd_zero_right]
          omega
        have hd : ∀ i, CDivZ i (cut t b) := fun _ => ⟨cut_ne hb, Nat.lt_of_le_of_lt (log2_mono (cut_le hb)) hl⟩
        refine ⟨_, rfl, _, _, rfl, rfl, _, rfl, ite2 (fun h2 => ?_) (fun h2 => ?_)⟩
        · have h' : b < 0 := of_decide_eq_true h2
          have ec : 0 - x = cut t b := by
            unfold cut
            rw [if_pos h', ex]
            omega
          refine ⟨_, rfl, _, _, rfl, rfl, ?_⟩
          dsimp only
          rw [ec]
          refine ⟨_, rfl, _, rfl, _, _, rfl, rfl, hd _, _, rfl, _, rfl, _, _, rfl, rfl, hd _, by show 2 ≤ sizeLine; decide, fun p np => ?_⟩
          refine q _ _ (same_upd np) ⟨p, rfl, ?_⟩
          dsimp only
          rw [upd_same, cut_top hb, cut_bottom hb]
        · have h' : ¬ b < 0 := fun z => h2 (decide_eq_true z)
          have ec : x = cut t b := by
            unfold cut
            rw [if_neg h', ex]
          rw [ec]
          refine ⟨_, rfl, _, rfl, _, _, rfl, rfl, hd _, _, rfl, _, rfl, _, _, rfl, rfl, hd _, by show 2 ≤ sizeLine; decide, fun p np => ?_⟩
          refine q _ _ (same_upd np) ⟨p, rfl, ?_⟩
          dsimp only
          rw [upd_same, cut_top hb, cut_bottom hb]
end

end Fb

namespace Fb
open PySem PySem.Spec PyProof.Rows L2
section
variable {P : Program} {w : World} {K : PySem.W.Frag} {mg : Str → Option Value} {base : Heap}
/-! ### the law's look at a share -/
def spPair (C : Addr) : Sp := fun vs H Q _ => ∃ (v : V) (z : Rat), vs = [v] ∧ IsShare C H v z ∧ Bd 9000 z ∧ ∀ H' r, Same H H' → IsTup2 H' r z.num (z.den : Int) → Q r H'
theorem ok_l_pair (T : Txt K mg) : FnOk P w K mg base CX0 2 T.f_l_pair T.d_l_pair ["_law_share"] (spPair T.c_Share) := by
  refine T.F_l_pair.ok sc_l_pair (fun vs H Q E h => ?_) (fun cdv A outer s H vs Q E hr h => ?_)
  · obtain ⟨v, z, rfl, _⟩ := h
    rfl
  · obtain ⟨v, z, rfl, ⟨p, dx, rfl, hx⟩, bz, q⟩ := h
    refine ⟨_, (pss_cons (ps_if (PW.pt (pw_or (pt_not (pt_val (pe_callB call_isi (by rfl) T.z_isinstance (by decide +kernel) (pa_cons (pv 0) (pa_cons (pe_glob (v := .ref T.c_Share) (by rfl) T.g_Share rfl) pa_nil))))) (pw_or (pt_val (pe_callB call_isi (by rfl) T.z_isinstance (by decide +kernel) (pa_cons (pe_fld (pv 0) rfl) (pa_cons (pe_bltn (v := .ty "bool") (by rfl) T.z_bool (by decide +kernel) rfl) pa_nil)))) (pw_or1 (pt_val (pe_callB call_isi (by rfl) T.z_isinstance (by decide +kernel) (pa_cons (pe_fld (pv 0) rfl) (pa_cons (pe_bltn (v := .ty "bool") (by rfl) T.z_bool (by decide +kernel) rfl) pa_nil))))))))
  (pss_one (ps_ret (pe_tup (pa_cons pe_int (pa_cons pe_int pa_nil)))))
  pss_nil)
 (pss_cons (ps_if (PW.pt (pw_or (pt_not (pt_val (pe_callB call_isi (by rfl) T.z_isinstance (by decide +kernel) (pa_cons (pe_fld (pv 0) rfl) (pa_cons (pe_bltn (v := .ty "int") (by rfl) T.z_int (by decide +kernel) rfl) pa_nil))))) (pw_or (pt_not (pt_val (pe_callB call_isi (by rfl) T.z_isinstance (by decide +kernel) (pa_cons (pe_fld (pv 0) rfl) (pa_cons (pe_bltn (v := .ty "int") (by rfl) T.z_int (by decide +kernel) rfl) pa_nil))))) (pw_or1 (pt_cmpR op_lt (pe_fld (pv 0) rfl) pe_int (nomark _))))))
  (pss_one (ps_ret (pe_tup (pa_cons pe_int (pa_cons pe_int pa_nil)))))
  pss_nil)
 (pss_one (ps_ret (pe_ifExp (pt_cmpR (op_eqD hr.units) (pe_call (ok_l_low T) (hr.mono (by decide)) (by rfl) T.g_l_low T.F_l_low.kp T.b_l_low .nil pass0 (pa_cons (pe_fld (pv 0) rfl) (pa_cons (pe_fld (pv 0) rfl) pa_nil))) (pe_tup (pa_cons (pe_fld (pv 0) rfl) (pa_cons (pe_fld (pv 0) rfl) pa_nil))) (nomark _)) (pe_tup (pa_cons (pe_fld (pv 0) rfl) (pa_cons (pe_fld (pv 0) rfl) pa_nil))) (pe_tup (pa_cons pe_int (pa_cons pe_int pa_nil)))))))), ?_⟩
    refine ⟨_, rfl, _, _, _, _, true, rfl, .own _, tyShare T hx, T.k_Share, true, rfl, ?_⟩
    refine iteF ?_
    refine ⟨_, rfl, _, _, _, _, _, rfl, hx, T.cl_Share, T.n_Share_top, flds_top _, _, _, _, _, false, rfl, .ty _, .base (.int _), kit_ty (by decide +kernel), false, rfl, ?_⟩
    refine iteF ?_
    refine ⟨_, rfl, _, _, _, _, _, rfl, hx, T.cl_Share, T.n_Share_bottom, flds_bottom _, _, _, _, _, false, rfl, .ty _, .base (.int _), kit_ty (by decide +kernel), false, rfl, ?_⟩
    refine iteF ?_
    refine ⟨_, rfl, _, _, _, _, _, rfl, hx, T.cl_Share, T.n_Share_top, flds_top _, _, _, _, _, true, rfl, .ty _, .base (.int _), kit_ty (by decide +kernel), true, rfl, ?_⟩
    refine iteF ?_
    refine ⟨_, rfl, _, _, _, _, _, rfl, hx, T.cl_Share, T.n_Share_bottom, flds_bottom _, _, _, _, _, true, rfl, .ty _, .base (.int _), kit_ty (by decide +kernel), true, rfl, ?_⟩
    refine iteF ?_
    refine ⟨_, rfl, _, _, _, _, _, rfl, hx, T.cl_Share, T.n_Share_bottom, flds_bottom _, _, _, rfl, rfl, _, rfl, ?_⟩
    have e0 : decide ((z.den : Int) < 1) = false := decide_eq_false (by have := z.den_pos; omega)
    rw [e0]
    refine iteF ?_
    refine ⟨_, rfl, _, _, _, _, _, rfl, hx, T.cl_Share, T.n_Share_top, flds_top _, _, rfl, _, _, _, _, _, rfl, hx, T.cl_Share, T.n_Share_bottom, flds_bottom _, _, _, rfl, den_ne z, log_of (by decide) (den_abs bz) (by decide), fun H1 r s1 h1 => ?_⟩
    rw [divInt_self] at h1
    have hx1 := s1 _ _ hx
    refine ⟨_, rfl, _, _, _, _, _, rfl, hx1, T.cl_Share, T.n_Share_top, flds_top _, _, rfl, _, _, _, _, _, rfl, hx1, T.cl_Share, T.n_Share_bottom, flds_bottom _, by show 2 ≤ sizeLine; decide, fun p2 n2 => ?_⟩
    have s2 := same_upd (o := .tup [.int z.num, .int (z.den : Int)]) n2
    refine ⟨_, _, (h1.mono s2).dp, IsTup2.dp ⟨p2, rfl, upd_same⟩, rfl, rfl, true, ?_, ?_⟩
    · rw [eqv_tup2]
      simp
    · refine iteT ?_
      have hx2 := s2 _ _ hx1
      refine ⟨_, rfl, _, _, _, _, _, rfl, hx2, T.cl_Share, T.n_Share_top, flds_top _, _, rfl, _, _, _, _, _, rfl, hx2, T.cl_Share, T.n_Share_bottom, flds_bottom _, by show 2 ≤ sizeLine; decide, fun p3 n3 => ?_⟩
      exact q _ _ (s1.trans (s2.trans (same_upd n3))) ⟨p3, rfl, upd_same⟩
end

end Fb

namespace Fb
open PySem PySem.Spec PyProof.Rows L2
section
variable {P : Program} {w : World} {K : PySem.W.Frag} {mg : Str → Option Value} {base : Heap}
/-! ### the law's own pairs: added, multiplied, compared, summed; shares made of them -/
def spTwo (f : Rat → Rat → Rat) : Sp := fun vs H Q _ => ∃ (v u : V) (a b c d : Int), vs = [v, u] ∧ IsTup2 H v a b ∧ IsTup2 H u c d ∧ a.natAbs < 2 ^ 4000 ∧ b.natAbs < 2 ^ 4000 ∧ c.natAbs < 2 ^ 4000 ∧ d.natAbs < 2 ^ 4000 ∧ b ≠ 0 ∧ d ≠ 0 ∧
  ∀ H' r, Same H H' → IsPr H' r (f (Rat.divInt a b) (Rat.divInt c d)) → Q r H'
theorem spTwo.mk {f : Rat → Rat → Rat} {v u : V} {x y : Rat} {H : Hp} {Q : VK} {E : XK} (hx : IsPr H v x) (hy : IsPr H u y) (bx : Bd 4000 x) (by_ : Bd 4000 y) (q : ∀ H' r, Same H H' → IsPr H' r (f x y) → Q r H') : spTwo f [v, u] H Q E :=
  ⟨v, u, _, _, _, _, rfl, hx, hy, bx.num, den_abs bx, by_.num, den_abs by_, den_ne _, den_ne _, fun H' r s h => q H' r s (by rw [divInt_self, divInt_self] at h; exact h)⟩
theorem wm4 {x y : Int} (hx : x.natAbs < 2 ^ 4000) (hy : y.natAbs < 2 ^ 4000) : CMulW x y := wide_mul hx hy (by decide) (by decide) (by decide)
theorem ok_l_added (T : Txt K mg) : FnOk P w K mg base CX0 2 T.f_l_added T.d_l_added ["_law_one_here", "_law_other"] (spTwo (· + ·)) := by
  refine T.F_l_added.ok sc_l_added (fun vs H Q E h => ?_) (fun cdv A outer s H vs Q E hr h => ?_)
  · obtain ⟨v, u, a, b, c, d, rfl, _⟩ := h
    rfl
  · obtain ⟨v, u, a, b, c, d, rfl, ⟨p, rfl, hp⟩, ⟨p', rfl, hp'⟩, la, lb, lc, ld, hb, hd, q⟩ := h
    refine ⟨_, (pss_one (ps_ret (pe_call (ok_l_low T) (hr.mono (by decide)) (by rfl) T.g_l_low T.F_l_low.kp T.b_l_low .nil pass0 (pa_cons (pe_op op_add (pe_op op_mulW (pe_ix ix_tup (pv 0) pe_int (fun _ _ => rfl)) (pe_ix ix_tup (pv 1) pe_int (fun _ _ => rfl))) (pe_op op_mulW (pe_ix ix_tup (pv 1) pe_int (fun _ _ => rfl)) (pe_ix ix_tup (pv 0) pe_int (fun _ _ => rfl)))) (pa_cons (pe_op op_mulW (pe_ix ix_tup (pv 0) pe_int (fun _ _ => rfl)) (pe_ix ix_tup (pv 1) pe_int (fun _ _ => rfl))) pa_nil))))), ?_⟩
    refine ⟨_, rfl, p, _, _, _, rfl, rfl, .inl (.inl hp), atI_nat (j := 0) rfl, _, rfl, p', _, _, _, rfl, rfl, .inl (.inl hp'), atI_nat (j := 1) rfl, _, _, rfl, rfl, wm4 la ld,
      _, rfl, p', _, _, _, rfl, rfl, .inl (.inl hp'), atI_nat (j := 0) rfl, _, rfl, p, _, _, _, rfl, rfl, .inl (.inl hp), atI_nat (j := 1) rfl, _, _, rfl, rfl, wm4 lc lb, _, _, rfl, rfl,
      _, rfl, p, _, _, _, rfl, rfl, .inl (.inl hp), atI_nat (j := 1) rfl, _, rfl, p', _, _, _, rfl, rfl, .inl (.inl hp'), atI_nat (j := 1) rfl, _, _, rfl, rfl, wm4 lb ld,
      _, _, rfl, Int.mul_ne_zero hb hd, log_of (by decide) (wide_lt lb ld) (by decide), fun H1 r s1 h1 => q H1 r s1 ?_⟩
    rw [← Rat.divInt_add_divInt a c hb hd] at h1
    exact h1
def spBelow : Sp := fun vs H Q _ => ∃ (v u : V) (x y : Rat), vs = [v, u] ∧ IsPr H v x ∧ IsPr H u y ∧ Bd 4000 x ∧ Bd 4000 y ∧ Q (.bl (decide (x < y))) H
theorem ok_l_below (T : Txt K mg) : FnOk P w K mg base CX0 1 T.f_l_below T.d_l_below ["_law_one_here", "_law_other"] spBelow := by
  refine T.F_l_below.ok sc_l_below (fun vs H Q E h => ?_) (fun cdv A outer s H vs Q E hr h => ?_)
  · obtain ⟨v, u, x, y, rfl, _⟩ := h
    rfl
  · obtain ⟨v, u, x, y, rfl, ⟨p, rfl, hp⟩, ⟨p', rfl, hp'⟩, bx, by_, q⟩ := h
    refine ⟨_, (pss_one (ps_ret (pe_cmpR op_lt (pe_op op_mulW (pe_ix ix_tup (pv 0) pe_int (fun _ _ => rfl)) (pe_ix ix_tup (pv 1) pe_int (fun _ _ => rfl))) (pe_op op_mulW (pe_ix ix_tup (pv 1) pe_int (fun _ _ => rfl)) (pe_ix ix_tup (pv 0) pe_int (fun _ _ => rfl))) (nomark _)))), ?_⟩
    refine ⟨_, rfl, p, _, _, _, rfl, rfl, .inl (.inl hp), atI_nat (j := 0) rfl, _, rfl, p', _, _, _, rfl, rfl, .inl (.inl hp'), atI_nat (j := 1) rfl, _, _, rfl, rfl, wm4 bx.num (den_abs by_),
      _, rfl, p', _, _, _, rfl, rfl, .inl (.inl hp'), atI_nat (j := 0) rfl, _, rfl, p, _, _, _, rfl, rfl, .inl (.inl hp), atI_nat (j := 1) rfl, _, _, rfl, rfl, wm4 by_.num (den_abs bx), _, _, rfl, rfl, ?_⟩
    have e : decide (x.num * (y.den : Int) < y.num * (x.den : Int)) = decide (x < y) := decide_eq_decide.mpr (Rat.lt_iff x y).symm
    dsimp only
    rw [e]
    exact q
def spTotal : Sp := fun vs H Q _ => ∃ (v : V) (qs : List Rat) (n : Nat), vs = [v] ∧ IsPrs H v qs ∧ (∀ q ∈ qs, Bd n q) ∧ (n + 1) * qs.length + 1 ≤ 4000 ∧ n ≤ 4000 ∧ ∀ H' r, Same H H' → IsPr H' r (rsum qs) → Q r H'
theorem ok_l_total (T : Txt K mg) : FnOk P w K mg base CX0 3 T.f_l_total T.d_l_total ["_law_pairs"] spTotal := by
  refine T.F_l_total.ok sc_l_total (fun vs H Q E h => ?_) (fun cdv A outer s H vs Q E hr h => ?_)
  · obtain ⟨v, qs, n, rfl, _⟩ := h
    rfl
  · obtain ⟨v, qs, n, rfl, ⟨p, ws, rfl, hp, aa⟩, bd, hl, hn, q⟩ := h
    refine ⟨_, (pss_cons (ps_set (i := 1) sc_l_total.nd rfl (.inl rfl) (pe_tup (pa_cons pe_int (pa_cons pe_int pa_nil))))
 (pss_cons (ps_for PassesOwn.never rfl (pi_list (pv 0)) (pg_name (i := 2) sc_l_total.nd rfl (.inl rfl))
  (pss_one (ps_set (i := 1) sc_l_total.nd rfl (.inl rfl) (pe_call (ok_l_added T) (hr.mono (by decide)) (by rfl) T.g_l_added T.F_l_added.kp T.b_l_added .nil pass0 (pa_cons (pv 1) (pa_cons (pv 2) pa_nil))))))
 (pss_one (ps_ret (pv 1))))), ?_⟩
    refine ⟨by show 2 ≤ sizeLine; decide, fun p1 n1 => ?_⟩
    have s1 := same_upd (o := .tup [.int 0, .int 1]) n1
    have hp1 := s1 _ _ hp
    refine ⟨_, rfl, p, rfl, ⟨_, SqL.of hp1⟩, for_list (K := K) (a := p) (xs := ws) (fun i σ H' => ∃ f y, σ = [some (.ref p), some f, y] ∧ Same H H' ∧ IsPr H' f (rsum (qs.take i))) ⟨_, _, rfl, s1, p1, rfl, upd_same⟩ (fun i σ H' _ h => ?_) (fun i x σ H' hi h => ?_) (fun σ H' h => ?_)⟩
    · obtain ⟨_, _, _, s', _⟩ := h
      exact SqL.of (s' _ _ hp)
    · obtain ⟨f, y, rfl, s', hf⟩ := h
      obtain ⟨z, hz, hpz⟩ := aa.at hi
      have hz' : z ∈ qs := List.mem_of_getElem? hz
      have bT : Bd 4000 (rsum (qs.take i)) := by
        refine (rsum_bd (n := n) fun z hz => bd z (List.mem_of_mem_take hz)).mono (Nat.le_trans ?_ hl)
        have : (qs.take i).length ≤ qs.length := by rw [List.length_take]; exact Nat.min_le_right _ _
        have := Nat.mul_le_mul_left (n + 1) this
        omega
      refine ⟨_, rfl, _, rfl, spTwo.mk (E := E0) hf (hpz.mono s') bT ((bd z hz').mono hn) fun H2 r s2 h2 => ⟨r, _, rfl, s'.trans s2, ?_⟩⟩
      rw [rsum_take hz]
      exact h2
    · obtain ⟨f, y, rfl, s', hf⟩ := h
      rw [aa.1, List.take_length] at hf
      exact ⟨_, rfl, q H' _ s' hf⟩
/-! ### shares of pairs -/
def spShs (C : Addr) : Sp := fun vs H Q _ => ∃ (v : V) (qs : List Rat), vs = [v] ∧ IsPrs H v qs ∧ (∀ q ∈ qs, Bd 9000 q) ∧ qs.length ≤ 900 ∧ ∀ H' p, H p = none → Same H H' → IsShares C H' (.ref p) qs → Q (.ref p) H'
theorem ok_l_shares (T : Txt K mg) : FnOk P w K mg base CX0 4 T.f_l_shares T.d_l_shares ["_law_pairs"] (spShs T.c_Share) := by
  refine T.F_l_shares.ok sc_l_shares (fun vs H Q E h => ?_) (fun cdv A outer s H vs Q E hr h => ?_)
  · obtain ⟨v, qs, rfl, _⟩ := h
    rfl
  · obtain ⟨v, qs, rfl, ⟨p, ws, rfl, hp, aa⟩, bd, hlen, q⟩ := h
    refine ⟨_, (pss_one (ps_ret (pe_lc (own := [("_law_top", 1), ("_law_bottom", 2)]) (g := (gTup K 2 (gCons (gName 1) (gCons (gName 2) gNil)))) (tt := tYes) (by rfl) sc_l_shares.nd (pi_list (pv 0)) (blkOk_by (own := [("_law_top", 1), ("_law_bottom", 2)]) (N := ["_law_pairs", "_law_top", "_law_bottom"]) (sc := defScope s_l_shares) (by decide +kernel)) (fun _ _ _ _ _ => by exact (pg_tup (by rfl) (pgs_cons (pg_name (i := 1) sc_l_shares.nd rfl (.inl rfl)) (pgs_cons (pg_name (i := 2) sc_l_shares.nd rfl (.inl rfl)) pgs_nil)))) (fun _ _ _ _ _ => by exact pts_nil) (fun _ _ _ _ _ => by exact (pe_make T.M_Share (ok_m_Share_init T) (hr.mono (by decide)) (by rfl) T.g_Share T.b_m_Share_init .nil pass0 (pa_cons (pv 1) (pa_cons (pv 2) pa_nil))))))), ?_⟩
    refine ⟨_, rfl, p, rfl, ⟨_, SqL.of hp⟩, fun D nD => lc_all (K := K) (a := p) (xs := ws) (fun i y G => ∃ z, qs[i]? = some z ∧ IsShare T.c_Share G y z) (fun _ _ _ _ s h => h.elim fun p f => ⟨p, f.1, f.2.mono s⟩) nD (SqL.of hp) (by rw [aa.1]; omega) (fun i x H2 k hi s2 eD hk => ?_) (fun H2 ys s2 e l r => ?_)⟩
    · obtain ⟨z, hz, q7, rfl, h7⟩ := aa.at hi
      have h7 := hid_same _ _ (s2 _ _ h7)
      refine ⟨q7, _, rfl, .inl (.inl h7), rfl, _, _, rfl, _, _, rfl, rfl, rfl, ?_⟩
      refine ⟨_, rfl, _, rfl, ?_⟩
      refine mk_share (den_ne z) (log_of (by decide) (den_abs (bd z (List.mem_of_getElem? hz))) (by decide)) fun H3 r3 s3 h3 => ?_
      rw [divInt_self] at h3
      refine hk _ _ s3 ⟨z, hz, h3.hidL ?_⟩
      obtain ⟨ys', e'⟩ := eD
      exact ⟨ys', s3 _ _ e'⟩
    · refine q H2 D nD (s2.trans hid_same) ⟨D, ys, rfl, e, .of_ix (by rw [l, aa.1]) fun i y hy => ?_⟩
      obtain ⟨z, hz, hi⟩ := r i y hy
      exact ⟨z, hz, hi.mono hid_same⟩
/-! ### tables -/
def IsTbl (R : Hp → V → List Rat → Prop) (H : Hp) (v : V) (qss : List (List Rat)) : Prop := ∃ p vs, v = .ref p ∧ H p = some (.lst vs) ∧ AllAre (R H) vs qss
theorem IsTbl.mono {R : Hp → V → List Rat → Prop} (m : ∀ H H' v qs, Same H H' → R H v qs → R H' v qs) {H H' : Hp} {v : V} {qss : List (List Rat)} (h : IsTbl R H v qss) (s : Same H H') : IsTbl R H' v qss := by
  obtain ⟨p, vs, e, h, a⟩ := h
  exact ⟨p, vs, e, s _ _ h, a.imp fun _ _ r => m _ _ _ _ s r⟩
theorem IsShares.hidN {C : Addr} {H : Hp} {D p : Addr} {qs : List Rat} (hn : p ≠ D) (e : ∃ ys, H D = some (.lst ys)) (h : IsShares C H (.ref p) qs) : IsShares C (Fb.hid D H) (.ref p) qs := by
  obtain ⟨p', vs, e', h, a⟩ := h
  cases e'
  exact ⟨p, vs, rfl, by rw [hid_ne hn]; exact h, a.imp fun _ _ r => r.hidL e⟩
theorem IsPr.hidL {H : Hp} {D : Addr} {v : V} {q : Rat} (e : ∃ ys, H D = some (.lst ys)) (h : IsPr H v q) : IsPr (Fb.hid D H) v q := IsTup2.hidL e h
theorem IsPrs.hidN {H : Hp} {D p : Addr} {qs : List Rat} (hn : p ≠ D) (e : ∃ ys, H D = some (.lst ys)) (h : IsPrs H (.ref p) qs) : IsPrs (Fb.hid D H) (.ref p) qs := by
  obtain ⟨p', vs, e', h, a⟩ := h
  cases e'
  exact ⟨p, vs, rfl, by rw [hid_ne hn]; exact h, a.imp fun _ _ r => r.hidL e⟩
end

end Fb

namespace Fb
open PySem PySem.Spec PyProof.Rows L2
section
variable {P : Program} {w : World} {K : PySem.W.Frag} {mg : Str → Option Value} {base : Heap}
theorem ok_l_by (T : Txt K mg) : FnOk P w K mg base CX0 2 T.f_l_by T.d_l_by ["_law_one_here", "_law_other"] (spTwo (· * ·)) := by
  refine T.F_l_by.ok sc_l_by (fun vs H Q E h => ?_) (fun cdv A outer s H vs Q E hr h => ?_)
  · obtain ⟨v, u, a, b, c, d, rfl, _⟩ := h
    rfl
  · obtain ⟨v, u, a, b, c, d, rfl, ⟨p, rfl, hp⟩, ⟨p', rfl, hp'⟩, la, lb, lc, ld, hb, hd, q⟩ := h
    refine ⟨_, (pss_one (ps_ret (pe_call (ok_l_low T) (hr.mono (by decide)) (by rfl) T.g_l_low T.F_l_low.kp T.b_l_low .nil pass0 (pa_cons (pe_op op_mulW (pe_ix ix_tup (pv 0) pe_int (fun _ _ => rfl)) (pe_ix ix_tup (pv 1) pe_int (fun _ _ => rfl))) (pa_cons (pe_op op_mulW (pe_ix ix_tup (pv 0) pe_int (fun _ _ => rfl)) (pe_ix ix_tup (pv 1) pe_int (fun _ _ => rfl))) pa_nil))))), ?_⟩
    refine ⟨_, rfl, p, _, _, _, rfl, rfl, .inl (.inl hp), atI_nat (j := 0) rfl, _, rfl, p', _, _, _, rfl, rfl, .inl (.inl hp'), atI_nat (j := 0) rfl, _, _, rfl, rfl, wm4 la lc,
      _, rfl, p, _, _, _, rfl, rfl, .inl (.inl hp), atI_nat (j := 1) rfl, _, rfl, p', _, _, _, rfl, rfl, .inl (.inl hp'), atI_nat (j := 1) rfl, _, _, rfl, rfl, wm4 lb ld,
      _, _, rfl, Int.mul_ne_zero hb hd, log_of (by decide) (wide_lt lb ld) (by decide), fun H1 r s1 h1 => q H1 r s1 ?_⟩
    rw [← Rat.divInt_mul_divInt a c] at h1
    exact h1
def spRows (C : Addr) : Sp := fun vs H Q _ => ∃ (v : V) (qss : List (List Rat)), vs = [v] ∧ IsTbl IsPrs H v qss ∧ (∀ qs ∈ qss, qs.length ≤ 900 ∧ ∀ q ∈ qs, Bd 9000 q) ∧ qss.length ≤ 900 ∧ ∀ H' p, H p = none → Same H H' → IsTbl (IsShares C) H' (.ref p) qss → Q (.ref p) H'
theorem ok_l_rows (T : Txt K mg) : FnOk P w K mg base CX0 5 T.f_l_rows T.d_l_rows ["_law_rows_here"] (spRows T.c_Share) := by
  refine T.F_l_rows.ok sc_l_rows (fun vs H Q E h => ?_) (fun cdv A outer s H vs Q E hr h => ?_)
  · obtain ⟨v, qs, rfl, _⟩ := h
    rfl
  · obtain ⟨v, qss, rfl, ⟨p, ws, rfl, hp, aa⟩, bd, hlen, q⟩ := h
    refine ⟨_, (pss_one (ps_ret (pe_lc (own := [("_law_row", 1)]) (g := (gName 1)) (tt := tYes) (by rfl) sc_l_rows.nd (pi_list (pv 0)) (blkOk_by (own := [("_law_row", 1)]) (N := ["_law_rows_here", "_law_row"]) (sc := defScope s_l_rows) (by decide +kernel)) (fun _ _ _ _ _ => by exact (pg_name (i := 1) sc_l_rows.nd rfl (.inl rfl))) (fun _ _ _ _ _ => by exact pts_nil) (fun _ _ _ _ _ => by exact (pe_call (ok_l_shares T) (hr.mono (by decide)) (by rfl) T.g_l_shares T.F_l_shares.kp T.b_l_shares .nil pass0 (pa_cons (pv 1) pa_nil)))))), ?_⟩
    refine ⟨_, rfl, p, rfl, ⟨_, SqL.of hp⟩, fun D nD => lc_all (K := K) (a := p) (xs := ws) (fun i y G => ∃ z, qss[i]? = some z ∧ IsShares T.c_Share G y z) (fun _ _ _ _ s h => h.elim fun p f => ⟨p, f.1, f.2.mono s⟩) nD (SqL.of hp) (by rw [aa.1]; omega) (fun i x H2 k hi s2 eD hk => ?_) (fun H2 ys s2 e l r => ?_)⟩
    · obtain ⟨z, hz, hpz⟩ := aa.at hi
      obtain ⟨lz, bz⟩ := bd z (List.mem_of_getElem? hz)
      refine ⟨rfl, _, rfl, _, z, rfl, hpz.mono (s2.trans hid_same), bz, lz, fun H3 p3 n3 s3 h3 => hk _ _ s3 ⟨z, hz, h3.hidN (fun e => ?_) ?_⟩⟩
      · obtain ⟨ys', e'⟩ := eD
        rw [e, e'] at n3
        cases n3
      · obtain ⟨ys', e'⟩ := eD
        exact ⟨ys', s3 _ _ e'⟩
    · refine q H2 D nD (s2.trans hid_same) ⟨D, ys, rfl, e, .of_ix (by rw [l, aa.1]) fun i y hy => ?_⟩
      obtain ⟨z, hz, hi⟩ := r i y hy
      exact ⟨z, hz, hi.mono hid_same⟩
end

end Fb

namespace Fb
open PySem PySem.Spec PyProof.Rows L2
section
variable {P : Program} {w : World} {K : PySem.W.Frag} {mg : Str → Option Value} {base : Heap}
/-! ### the law's heaps -/
def spHeap : Sp := fun vs H Q _ => ∃ (a : Addr) (m : Nat) (n : Nat), vs = [.ref a, .int m] ∧ WellAt H a (n + 40) ∧ 1 ≤ m ∧ m ≤ 12 ∧
  ∀ H' p qs, H p = none → Same (hid a H) (hid a H') → WellAt H' a n → IsPrs (hid a H') (.ref p) qs → qs.length = m → HeapOk qs → Q (.ref p) H'
theorem flat_rep {x : V} : ∀ m : Nat, (List.replicate m [x]).flatten = List.replicate m x
  | 0 => rfl
  | k + 1 => by
    rw [List.replicate_succ, List.flatten_cons, flat_rep k, List.replicate_succ]
    rfl
theorem ok_l_heap (T : Txt K mg) : FnOk P w K mg base CX0 3 T.f_l_heap T.d_l_heap ["_law_well_here", "_law_many"] spHeap := by
  refine T.F_l_heap.ok sc_l_heap (fun vs H Q E h => ?_) (fun cdv A outer s H vs Q E hr h => ?_)
  · obtain ⟨a, m, n, rfl, _⟩ := h
    rfl
  · obtain ⟨a, m, n, rfl, hw, m1, m12, q⟩ := h
    refine ⟨_, (pss_cons (ps_set (i := 2) sc_l_heap.nd rfl (.inl rfl) (pe_call (ok_l_draw T) (hr.mono (by decide)) (by rfl) T.g_l_draw T.F_l_draw.kp T.b_l_draw .nil pass0 (pa_cons (pv 0) (pa_cons pe_int pa_nil))))
 (pss_cons (ps_set (i := 3) sc_l_heap.nd rfl (.inr rfl) (pe_op op_rep (pe_lst (pa_cons pe_int pa_nil)) (pv 1)))
 (pss_cons (ps_for PassesOwn.never rfl (pi_range1 (by rfl) T.z_range (pa_cons (pe_ix ix_list (pe_lst (pa_cons pe_int (pa_cons pe_int (pa_cons pe_int (pa_cons pe_int pa_nil))))) (pv 2) (fun _ _ => rfl)) pa_nil)) (pg_name (i := 4) sc_l_heap.nd rfl (.inl rfl))
  (pss_cons (ps_set (i := 5) sc_l_heap.nd rfl (.inl rfl) (pe_call (ok_l_draw T) (hr.mono (by decide)) (by rfl) T.g_l_draw T.F_l_draw.kp T.b_l_draw .nil pass0 (pa_cons (pv 0) (pa_cons (pv 1) pa_nil))))
 (pss_one (ps_asg (pe_op op_add (pe_op op_add (pe_ix ix_list (pv 3) (pv 5) (fun _ _ => rfl)) pe_int) (pe_call (ok_l_draw T) (hr.mono (by decide)) (by rfl) T.g_l_draw T.F_l_draw.kp T.b_l_draw .nil pass0 (pa_cons (pv 0) (pa_cons pe_int pa_nil)))) (pg_sub (pv 3) (pv 5) set_list)))))
 (pss_cons (ps_if (pt_cmpR op_eq (pv 2) pe_int (nomark _))
  (pss_one (ps_set (i := 3) sc_l_heap.nd rfl (.inr rfl) (pe_lc (own := [("_law_place", 6)]) (g := (gName 6)) (tt := tYes) (by rfl) sc_l_heap.nd (pi_range1 (by rfl) T.z_range (pa_cons (pv 1) pa_nil)) (blkOk_by (own := [("_law_place", 6)]) (N := ["_law_well_here", "_law_many", "_law_way", "_law_weights", "_law_k", "_law_at", "_law_place", "_law_weight"]) (sc := defScope s_l_heap) (by decide +kernel)) (fun _ _ _ _ _ => by exact (pg_name (i := 6) sc_l_heap.nd rfl (.inl rfl))) (fun _ _ _ _ _ => by exact pts_nil) (fun _ _ _ _ _ => by exact (pe_call (ok_l_draw T) (hr.mono (by decide)) (by rfl) T.g_l_draw T.F_l_draw.kp T.b_l_draw .nil pass0 (pa_cons (pv 0) (pa_cons pe_int pa_nil)))))))
  pss_nil)
 (pss_cons (ps_if (pt_cmpR op_eq (pe_callB (cr_sum rfl) (by rfl) T.z_sum (by decide +kernel) (pa_cons (pv 3) pa_nil)) pe_int (nomark _))
  (pss_one (ps_asg pe_int (pg_sub (pv 3) (pe_call (ok_l_draw T) (hr.mono (by decide)) (by rfl) T.g_l_draw T.F_l_draw.kp T.b_l_draw .nil pass0 (pa_cons (pv 0) (pa_cons (pv 1) pa_nil))) set_list)))
  pss_nil)
 (pss_one (ps_ret (pe_lc (own := [("_law_weight", 7)]) (g := (gName 7)) (tt := tYes) (by rfl) sc_l_heap.nd (pi_list (pv 3)) (blkOk_by (own := [("_law_weight", 7)]) (N := ["_law_well_here", "_law_many", "_law_way", "_law_weights", "_law_k", "_law_at", "_law_place", "_law_weight"]) (sc := defScope s_l_heap) (by decide +kernel)) (fun _ _ _ _ _ => by exact (pg_name (i := 7) sc_l_heap.nd rfl (.inl rfl))) (fun _ _ _ _ _ => by exact pts_nil) (fun _ _ _ _ _ => by exact (pe_call (ok_l_low T) (hr.mono (by decide)) (by rfl) T.g_l_low T.F_l_low.kp T.b_l_low .nil pass0 (pa_cons (pv 7) (pa_cons (pe_callB (cr_sumK (K := K) rfl rfl) (by rfl) T.z_sum (by decide +kernel) (pa_cons (pv 3) pa_nil)) pa_nil)))))))))))), ?_⟩
    have lm : ((m : Nat) : Int).natAbs.log2 < 9000 := log_small (by omega)
    refine ⟨_, rfl, a, 4, n + 39, rfl, hw, by decide, log_small (m := 4) (by decide), fun way H1 y0 y4 s1 w1 => ?_⟩
    -- the noughts
    refine ⟨by show 1 ≤ sizeLine; decide, fun p2 n2 => ?_⟩
    obtain ⟨w2, s2⟩ := well_new (o := .lst [.int 0]) w1 n2
    refine ⟨_, rfl, p2, m, _, rfl, rfl, upd_same, by omega, by omega, ?_, fun pw nw => ?_⟩
    · show 1 * ((m : Nat) : Int).toNat ≤ sizeLine
      rw [Int.toNat_natCast, Nat.one_mul]
      exact Nat.le_of_lt (small1000 (by omega))
    have eN : (List.replicate ((m : Nat) : Int).toNat [V.int 0]).flatten = (List.replicate m (0 : Int)).map V.int := by
      rw [Int.toNat_natCast, List.map_replicate]
      exact flat_rep m
    rw [eN]
    obtain ⟨w3, s3⟩ := well_new (o := .lst ((List.replicate m (0 : Int)).map V.int)) w2 nw
    have W0 : WtAt H a m 0 (n + 39) pw (List.replicate m 0) (upd (upd H1 p2 (.lst [.int 0])) pw (.lst ((List.replicate m (0 : Int)).map V.int))) := by
      have ne := w2.ne nw
      refine ⟨none_back (s1.trans s2) w2 nw, ne, upd_same, List.length_replicate, fun x hx => ?_, ?_, w3⟩
      · rw [(List.mem_replicate.mp hx).2]
        decide
      · rw [hid2_upd ne]
        intro b o e
        have hb : b ≠ pw := fun z => by
          have := none_back (s1.trans s2) w2 nw
          rw [z, hid_ne ne, this] at e
          cases e
        rw [hid_ne hb]
        exact (s1.trans s2) _ _ e
    generalize upd (upd H1 p2 (.lst [.int 0])) pw (.lst ((List.replicate m (0 : Int)).map V.int)) = H3 at W0
    -- how many places
    refine ⟨by show 4 ≤ sizeLine; decide, fun p4 n4 => ?_⟩
    obtain ⟨w4, s4⟩ := well_new (o := .lst [.int 1, .int 2, .int 3, .int 0]) W0.well n4
    have W4 := W0.step s4 w4
    obtain ⟨c, hc, c0, c3⟩ : ∃ c : Int, atI [V.int 1, V.int 2, V.int 3, V.int 0] way = some (.int c) ∧ 0 ≤ c ∧ c ≤ 3 := by
      have : way = 0 ∨ way = 1 ∨ way = 2 ∨ way = 3 := by omega
      rcases this with e | e | e | e <;> subst e <;> exact ⟨_, rfl, by decide, by decide⟩
    refine ⟨_, rfl, p4, _, _, _, rfl, rfl, sqL_new, hc, c, rfl, by omega, by omega, for_range (fun i σ H' => ∃ ns z4 z5 z6 z7, σ = [some (.ref a), some (.int m), some (.int way), some (.ref pw), z4, z5, z6, z7] ∧ WtAt H a m (10 * i) (n + 39 - 2 * i) pw ns H') ⟨_, _, _, _, _, rfl, W4⟩ (fun i σ H' hi h => ?_) (fun σ H' h => ?_)⟩
    · obtain ⟨ns, z4, z5, z6, z7, rfl, Wi⟩ := h
      have hi3 : i < 3 := by omega
      refine ⟨_, rfl, _, rfl, a, m, n + 39 - 2 * i - 1, rfl, Wi.well.mono (by omega), by omega, lm, fun d H5 d0 d1 s5 w5 => ?_⟩
      have W5 := Wi.step s5 w5
      have hd : d.toNat < ns.length := by rw [W5.len]; omega
      have eA : atI (ns.map V.int) d = some (.int ns[d.toNat]) := by
        obtain ⟨x, e1, e2⟩ := atI_get (xs := ns.map V.int) (i := d) d0 (by rw [List.length_map, W5.len]; exact d1)
        rw [List.getElem?_map, List.getElem?_eq_getElem hd] at e2
        cases e2
        exact e1
      refine ⟨_, rfl, _, rfl, pw, _, _, _, rfl, rfl, SqL.of W5.at_, eA, _, _, rfl, rfl, _, rfl, a, 9, n + 39 - 2 * i - 2, rfl, W5.well.mono (by omega), by decide, log_small (m := 9) (by decide), fun d9 H6 d90 d91 s6 w6 => ?_⟩
      have W6 := W5.step s6 w6
      have b6 := W6.bd _ (List.getElem_mem hd)
      refine ⟨_, _, rfl, rfl, _, rfl, _, rfl, pw, _, _, d.toNat, rfl, rfl, W6.at_, ?_, ?_⟩
      · unfold ixN
        rw [List.length_map, W6.len, if_pos d0, if_pos d1]
      · refine ⟨ns.set d.toNat (ns[d.toNat] + 1 + d9), _, _, _, _, rfl, ?_⟩
        have := (W6.upB (B' := 10 * ((i + 1 : Nat) : Int)) (by omega)).set d.toNat (v := ns[d.toNat] + 1 + d9) (by omega) (by omega)
        exact ⟨this.new, this.ne, this.at_, this.len, this.bd, this.same, this.well.mono (by omega)⟩
    · obtain ⟨ns, z4, z5, z6, z7, rfl, Wi⟩ := h
      have Wi : WtAt H a m 40 (n + 30) pw ns H' := by
        have := Wi.upB (B' := 40) (by omega)
        exact ⟨this.new, this.ne, this.at_, this.len, this.bd, this.same, this.well.mono (by omega)⟩
      refine ⟨_, rfl, rfl, _, rfl, ite_mid (fun σ H' => ∃ pw ns z4 z5 z6 z7, σ = [some (.ref a), some (.int m), some (.int way), some (.ref pw), z4, z5, z6, z7] ∧ WtAt H a m 40 (n + 5) pw ns H') (fun _ fin => ?_) (fun _ => ⟨pw, ns, _, _, _, _, rfl, Wi.step (Same.refl _) (Wi.well.mono (by omega))⟩) (fun σ H7 h => ?_)⟩
      · refine ⟨_, rfl, m, rfl, by omega, by omega, fun D nD => lc_wellR (a := a) (fun y _ => ∃ d : Int, y = .int d ∧ 0 ≤ d ∧ d < 12) (fun _ _ _ _ h => h) 1 (n + 5) nD (Wi.well.mono (by omega)) (by omega) (fun i5 H12 k5 k hi w12 s12 eD hk => ?_) (fun H12 ys s12 w12 e12 l12 r12 => ?_)⟩
        · refine ⟨rfl, _, rfl, a, 12, k5, rfl, w12, by decide, log_small (m := 12) (by decide), fun d H13 d0 d1 s13 w13 => hk _ _ s13 w13 ⟨d, rfl, d0, d1⟩⟩
        · obtain ⟨ds, hds⟩ := allAre_of (R := fun y d => y = V.int d ∧ 0 ≤ d ∧ d < 12) r12
          have ey : ys = ds.map V.int := by
            refine List.ext_getElem? fun j => ?_
            rw [List.getElem?_map]
            cases e : ys[j]? with
            | none =>
              have : ds.length ≤ j := by rw [← hds.1]; exact List.getElem?_eq_none_iff.mp e
              rw [List.getElem?_eq_none_iff.mpr this]
              rfl
            | some y =>
              obtain ⟨d, hd, rfl, _⟩ := hds.at e
              rw [hd]
              rfl
          have nDa := Wi.well.ne nD
          refine fin _ _ ⟨D, ds, _, _, _, _, rfl, ?_, nDa, by rw [← ey]; exact e12, by rw [← hds.1, l12]; omega, fun x hx => ?_, ?_, w12⟩
          · cases e : H D with
            | none => rfl
            | some o =>
              have := (Wi.same.trans hid_same) D o (by rw [hid_ne nDa]; exact e)
              rw [hid_ne nDa, nD] at this
              cases this
          · obtain ⟨y, _, h0, h1⟩ := hds.mem hx
            omega
          · exact (Wi.same.trans hid_same).trans s12
      · obtain ⟨pw, ns, z4, z5, z6, z7, rfl, W7⟩ := h
        refine ⟨_, rfl, pw, ns, rfl, SqL.of W7.at_, rfl, _, rfl, ite_mid (fun σ H' => ∃ ns z4 z5 z6 z7, σ = [some (.ref a), some (.int m), some (.int way), some (.ref pw), z4, z5, z6, z7] ∧ WtAt H a m 40 n pw ns H' ∧ 0 < ns.sum) (fun _ fin => ?_) (fun h0 => ?_) (fun σ H8 h => ?_)⟩
        · refine ⟨_, rfl, _, rfl, _, rfl, a, m, n, rfl, W7.well.mono (by omega), by omega, lm, fun d H9 d0 d1 s9 w9 => ?_⟩
          have W9 := W7.step s9 w9
          refine ⟨pw, _, _, d.toNat, rfl, rfl, W9.at_, ?_, ?_⟩
          · unfold ixN
            rw [List.length_map, W9.len, if_pos d0, if_pos d1]
          · have W10 := W9.set d.toNat (v := 1) (by decide) (by decide)
            refine fin _ _ ⟨_, _, _, _, _, rfl, W10, ?_⟩
            have hd : d.toNat < ns.length := by rw [W9.len]; omega
            have := sum_ge (fun x hx => (W10.bd x hx).1) (List.mem_set (a := (1 : Int)) hd)
            omega
        · refine ⟨ns, _, _, _, _, rfl, W7.step (Same.refl _) (W7.well.mono (by omega)), ?_⟩
          have := sum_nn fun x hx => (W7.bd x hx).1
          have : ns.sum ≠ 0 := fun z => h0 (decide_eq_true (by rw [z]))
          omega
        · obtain ⟨ns, z4, z5, z6, z7, rfl, W8, h0⟩ := h
          have S1 : ns.sum ≤ 12 * 40 := by
            have := sum_le fun x hx => (W8.bd x hx).2
            have := W8.len
            omega
          refine ⟨_, rfl, pw, rfl, ⟨_, SqL.of W8.at_⟩, fun D nD => lc_all (K := K) (a := pw) (xs := ns.map V.int) (fun i y G => ∃ z, (ns.map fun x => Rat.divInt x ns.sum)[i]? = some z ∧ IsPr G y z) (fun _ _ _ _ s h => h.elim fun p f => ⟨p, f.1, f.2.mono s⟩) nD (SqL.of W8.at_) (by rw [List.length_map, W8.len]; omega) (fun i x H9 k hi s9 eD hk => ?_) (fun H9 ys s9 e9 l9 r9 => ?_)⟩
          · rw [List.getElem?_map] at hi
            obtain ⟨t, ht, rfl⟩ := Option.map_eq_some_iff.mp hi
            have at9 := hid_same _ _ (s9 _ _ W8.at_)
            refine ⟨rfl, _, rfl, _, rfl, pw, ns, rfl, SqL.of at9, t, ns.sum, rfl, by omega, ?_, fun H10 r10 s10 h10 => ?_⟩
            · have e : ns.sum = ((ns.sum.toNat : Nat) : Int) := by omega
              rw [e]
              exact log_small (by omega)
            · refine hk _ _ s10 ⟨_, by rw [List.getElem?_map, ht]; rfl, IsTup2.hidL ?_ h10⟩
              obtain ⟨ys', e'⟩ := eD
              exact ⟨ys', s10 _ _ e'⟩
          · have nDa := W8.well.ne nD
            have w9 := W8.well.same (s9.trans hid_same)
            refine q H9 D _ ?_ ((W8.same.trans hid_same).trans (hid_mono (s9.trans hid_same))) w9 ⟨D, ys, rfl, by rw [hid_ne nDa]; exact e9, .of_ix (by rw [l9, List.length_map, List.length_map]) fun i y hy => ?_⟩ (by rw [List.length_map, W8.len]) (heap_ok W8.bd h0 (by rw [W8.len]; exact m12) (by decide))
            · cases e : H D with
              | none => rfl
              | some o =>
                have := (W8.same.trans hid_same) D o (by rw [hid_ne nDa]; exact e)
                rw [hid_ne nDa, nD] at this
                cases this
            · obtain ⟨z, hz, hi⟩ := r9 i y hy
              exact ⟨z, hz, IsTup2.hid w9 (hi.mono hid_same)⟩
end

end Fb

namespace Fb
open PySem PySem.Spec PyProof.Rows L2
section
variable {P : Program} {w : World} {K : PySem.W.Frag} {mg : Str → Option Value} {base : Heap}
/-! ### the law's plans -/
theorem ite_fin {c A B : Prop} [Decidable c] {Rest : V → Hp → Prop} (H : Hp) (M : V → Prop) (h1 : c → (∀ x, M x → Rest x H) → A) (h2 : ¬ c → (∀ x, M x → Rest x H) → B) (h3 : ∀ x, M x → Rest x H) : if c then A else B := by
  by_cases h : c
  · rw [if_pos h]
    exact h1 h h3
  · rw [if_neg h]
    exact h2 h h3
def tblOf (m k : Nat) (T : Nat → Nat → Rat) : List (List Rat) := (List.range m).map fun x => (List.range k).map (T x)
def spFilled : Sp := fun vs H Q _ => ∃ (a : Addr) (v u : V) (pl ql : List Rat) (n : Nat), vs = [.ref a, v, u] ∧ WellAt H a (n + 150) ∧ IsPrs (hid a H) v pl ∧ IsPrs (hid a H) u ql ∧ HeapOk pl ∧ HeapOk ql ∧ pl.length ≤ 12 ∧ ql.length ≤ 12 ∧
  ∀ H' p T, H p = none → Same (hid a H) (hid a H') → WellAt H' a n → IsTbl IsPrs (hid a H') (.ref p) (tblOf pl.length ql.length T) → PlanOk pl.length ql.length (at0 pl) (at0 ql) T → Q (.ref p) H'
theorem VecAt.hidN {H : Hp} {a p : Addr} {n m : Nat} {f : Nat → Rat} (w : WellAt H a n) (hp : p ≠ a) (v : VecAt H p m f) : VecAt (hid a H) p m f := by
  obtain ⟨vs, e, l, r⟩ := v
  exact ⟨vs, by rw [hid_ne hp]; exact e, l, fun i v hv => IsTup2.hid w (r i v hv)⟩
theorem ok_l_filled (T : Txt K mg) : FnOk P w K mg base CX0 3 T.f_l_filled T.d_l_filled ["_law_well_here", "_law_first", "_law_second"] spFilled := by
  refine T.F_l_filled.ok sc_l_filled (fun vs H Q E h => ?_) (fun cdv A outer s H vs Q E hr h => ?_)
  · obtain ⟨a, v, u, pl, ql, n, rfl, _⟩ := h
    rfl
  · obtain ⟨a, v, u, pl, ql, n, rfl, hw, hv, hu, okp, okq, m12, k12, q⟩ := h
    refine ⟨_, (pss_cons (ps_par (i := 3) (j := 4) (by rfl) sc_l_filled.nd rfl rfl (by decide) rfl rfl (pa_cons (pe_callTy call_list_of (by rfl) T.z_list (by decide +kernel) (pa_cons (pv 1) pa_nil)) (pa_cons (pe_callTy call_list_of (by rfl) T.z_list (by decide +kernel) (pa_cons (pv 2) pa_nil)) pa_nil)) (by rfl))
 (pss_cons (ps_setLc (i := 5) (own := [("_law_share", 10)]) (g := (gName 10)) (tt := tYes) (by rfl) sc_l_filled.nd rfl rfl (sw_true rfl rfl rfl (by decide +kernel)) (pi_list (pv 1)) (blkOk_by (own := [("_law_share", 10)]) (N := ["_law_well_here", "_law_first", "_law_second", "_law_have", "_law_want", "_law_plan", "_law_spots", "_law_x", "_law_y", "_law_amount", "_law_share"]) (sc := defScope s_l_filled) (by decide +kernel)) (fun _ _ _ _ _ => by exact (pg_name (i := 10) sc_l_filled.nd rfl (.inl rfl))) (fun _ _ _ _ _ => by exact pts_nil) (fun _ _ _ _ _ => by exact (pe_op op_rep (pe_lst (pa_cons (pe_tup (pa_cons pe_int (pa_cons pe_int pa_nil))) pa_nil)) (pe_callB (call_len_seqK (K := K) rfl) (by rfl) T.z_len (by decide +kernel) (pa_cons (pv 2) pa_nil)))))
 (pss_cons (ps_set (i := 6) sc_l_filled.nd rfl (.inl rfl) (pe_lst pa_nil))
 (pss_cons (ps_for PassesOwn.never rfl (pi_range1 (by rfl) T.z_range (pa_cons (pe_callB call_len_seq (by rfl) T.z_len (by decide +kernel) (pa_cons (pv 1) pa_nil)) pa_nil)) (pg_name (i := 7) sc_l_filled.nd rfl (.inr rfl))
  (pss_one (ps_expr (pe_bm PySem.F.plainAttrs_list PySem.F.slot_list_extend PySem.F.type_list_extend mt_extend (pv 6) (pa_cons (pe_lc (own := [("_law_y", 8)]) (g := (gName 8)) (tt := tYes) (by rfl) sc_l_filled.nd (pi_range1 (by rfl) T.z_range (pa_cons (pe_callB call_len_seq (by rfl) T.z_len (by decide +kernel) (pa_cons (pv 2) pa_nil)) pa_nil)) (blkOk_by (own := [("_law_y", 8)]) (N := ["_law_well_here", "_law_first", "_law_second", "_law_have", "_law_want", "_law_plan", "_law_spots", "_law_x", "_law_y", "_law_amount", "_law_share"]) (sc := defScope s_l_filled) (by decide +kernel)) (fun _ _ _ _ _ => by exact (pg_name (i := 8) sc_l_filled.nd rfl (.inl rfl))) (fun _ _ _ _ _ => by exact pts_nil) (fun _ _ _ _ _ => by exact (pe_tup (pa_cons (pv 7) (pa_cons (pv 8) pa_nil))))) pa_nil)))))
 (pss_cons (ps_while PassesOwn.never (pt_cmpR (op_neNil hr.units0) (pv 6) (pe_lst pa_nil) (nomark _))
  (pss_cons (ps_asg (pe_bm PySem.F.plainAttrs_list PySem.F.slot_list_pop PySem.F.type_list_pop mt_popAt (pv 6) (pa_cons (pe_call (ok_l_draw T) (hr.mono (by decide)) (by rfl) T.g_l_draw T.F_l_draw.kp T.b_l_draw .nil pass0 (pa_cons (pv 0) (pa_cons (pe_callB call_len_seq (by rfl) T.z_len (by decide +kernel) (pa_cons (pv 6) pa_nil)) pa_nil))) pa_nil)) (pg_tup (by rfl) (pgs_cons (pg_name (i := 7) sc_l_filled.nd rfl (.inr rfl)) (pgs_cons (pg_name (i := 8) sc_l_filled.nd rfl (.inl rfl)) pgs_nil))))
 (pss_cons (ps_set (i := 9) sc_l_filled.nd rfl (.inl rfl) (pe_ifExp (pt_val (pe_call (ok_l_below T) (hr.mono (by decide)) (by rfl) T.g_l_below T.F_l_below.kp T.b_l_below .nil pass0 (pa_cons (pe_ix ix_list (pv 4) (pv 8) (fun _ _ => rfl)) (pa_cons (pe_ix ix_list (pv 3) (pv 7) (fun _ _ => rfl)) pa_nil)))) (pe_ix ix_list (pv 4) (pv 8) (fun _ _ => rfl)) (pe_ix ix_list (pv 3) (pv 7) (fun _ _ => rfl))))
 (pss_cons (ps_asg (pv 9) (pg_sub (pe_ix ix_list (pv 5) (pv 7) (fun _ _ => rfl)) (pv 8) set_list))
 (pss_cons (ps_asg (pe_call (ok_l_added T) (hr.mono (by decide)) (by rfl) T.g_l_added T.F_l_added.kp T.b_l_added .nil pass0 (pa_cons (pe_ix ix_list (pv 3) (pv 7) (fun _ _ => rfl)) (pa_cons (pe_tup (pa_cons (pe_op op_sub pe_int (pe_ix ix_tup (pv 9) pe_int (fun _ _ => rfl))) (pa_cons (pe_ix ix_tup (pv 9) pe_int (fun _ _ => rfl)) pa_nil))) pa_nil))) (pg_sub (pv 3) (pv 7) set_list))
 (pss_one (ps_asg (pe_call (ok_l_added T) (hr.mono (by decide)) (by rfl) T.g_l_added T.F_l_added.kp T.b_l_added .nil pass0 (pa_cons (pe_ix ix_list (pv 4) (pv 8) (fun _ _ => rfl)) (pa_cons (pe_tup (pa_cons (pe_op op_sub pe_int (pe_ix ix_tup (pv 9) pe_int (fun _ _ => rfl))) (pa_cons (pe_ix ix_tup (pv 9) pe_int (fun _ _ => rfl)) pa_nil))) pa_nil))) (pg_sub (pv 4) (pv 8) set_list))))))))
 (pss_one (ps_ret (pv 5)))))))), ?_⟩
    obtain ⟨p1, xs1, rfl, e1, a1⟩ := id hv
    obtain ⟨p2, xs2, rfl, e2, a2⟩ := id hu
    have sh : ∀ H', Same (hid a H) H' → Same (hid a H) H' := fun _ s => s
    -- the two copies
    refine ⟨_, rfl, p1, xs1, rfl, .inl (hid_same.seq (SqL.of e1)), fun ph nh => ?_⟩
    obtain ⟨w3, s3⟩ := well_new (o := .lst xs1) hw nh
    refine ⟨_, rfl, p2, xs2, rfl, .inl ((s3.trans hid_same).seq (SqL.of e2)), fun pw nw => ?_⟩
    obtain ⟨w4, s4⟩ := well_new (o := .lst xs2) w3 nw
    refine ⟨_, _, rfl, ?_⟩
    have hhw : ph ≠ pw := fun z => by
      rw [← z, upd_same] at nw
      cases nw
    have s34 := s3.trans s4
    have vh : VecAt (upd (upd H ph (.lst xs1)) pw (.lst xs2)) ph pl.length (at0 pl) := by
      refine ⟨xs1, by rw [upd_ne hhw]; exact upd_same, a1.1, fun i v hv => ?_⟩
      obtain ⟨z, hz, r⟩ := a1.at hv
      rw [at0_of hz]
      exact r.mono (s34.trans hid_same)
    have vw : VecAt (upd (upd H ph (.lst xs1)) pw (.lst xs2)) pw ql.length (at0 ql) := by
      refine ⟨xs2, upd_same, a2.1, fun i v hv => ?_⟩
      obtain ⟨z, hz, r⟩ := a2.at hv
      rw [at0_of hz]
      exact r.mono (s34.trans hid_same)
    have nwH : H pw = none := by
      rw [upd_ne hhw.symm] at nw
      exact nw
    have nha := hw.ne nh
    have nwa := hw.ne nwH
    generalize upd (upd H ph (.lst xs1)) pw (.lst xs2) = H4 at *
    -- the plan of noughts
    have q1 : SqL K H4 p1 xs1 := (s34.trans hid_same).seq (SqL.of e1)
    have q2 : SqL K H4 p2 xs2 := (s34.trans hid_same).seq (SqL.of e2)
    refine ⟨_, rfl, p1, rfl, ⟨_, q1⟩, fun pp npp => lc_rows (K := K) (a := p1) (xs := xs1) ql.length (fun _ => 0) npp q1 (by rw [a1.1]; omega) (fun i x H5 kk hx s5 hk => ?_) (fun H5 rs s5 e5 l5 nd5 r5 => ?_)⟩
    · refine ⟨rfl, by show 2 ≤ sizeLine; decide, fun t nt => ⟨by show 1 ≤ sizeLine; decide, fun l nl => ?_⟩⟩
      have st := same_upd (o := .tup [.int 0, .int 1]) nt
      have sl := same_upd (o := .lst [.ref t]) nl
      refine ⟨_, rfl, p2, xs2, rfl, .inl ((s5.trans (st.trans sl)).seq q2), l, _, _, rfl, rfl, upd_same, by omega, by rw [a2.1]; omega, ?_, fun r nr => ?_⟩
      · show 1 * ((xs2.length : Nat) : Int).toNat ≤ sizeLine
        rw [Int.toNat_natCast, Nat.one_mul, a2.1]
        exact Nat.le_of_lt (small1000 (by omega))
      · have sr := same_upd (o := .lst (List.replicate ((xs2.length : Nat) : Int).toNat [V.ref t]).flatten) nr
        have nrl : r ≠ l := fun z => by
          rw [z, upd_same] at nr
          cases nr
        have nrt : r ≠ t := fun z => by
          rw [z, sl _ _ upd_same] at nr
          cases nr
        refine hk r _ ?_ (st.trans (sl.trans sr)) ?_
        · rw [upd_ne nrl, upd_ne nrt] at nr
          exact nr
        · refine ⟨_, upd_same, ?_, fun j v hv => ?_⟩
          · rw [Int.toNat_natCast, flat_rep, List.length_replicate, a2.1]
          · rw [Int.toNat_natCast, flat_rep] at hv
            have : v = .ref t := by
              have := List.mem_of_getElem? hv
              exact (List.mem_replicate.mp this).2
            subst this
            exact ⟨t, rfl, sr _ _ (sl _ _ upd_same)⟩
    -- no spots
    have sD : Same H4 H5 := s5.trans hid_same
    have w5 := w4.same sD
    refine ⟨Nat.zero_le _, fun ps nps => ?_⟩
    have s6 := same_upd (o := .lst []) nps
    have F0 : FillAt H a (n + 150) pl.length ql.length ph pw pp ps rs (at0 pl) (at0 ql) (fun _ _ => 0) (spotsTo ql.length 0) (upd H5 ps (.lst [])) := by
      have nd := List.nodup_cons.mp nd5
      have all4 : ∀ p, H4 p = none → H p = none ∧ p ≠ a := fun p hp => ⟨none_back s34 w4 hp, w4.ne hp⟩
      have np5 : H4 ps = none := by
        cases e : H4 ps with
        | none => rfl
        | some o =>
          have := sD _ _ e
          rw [nps] at this
          cases this
      have h4 : H4 ph ≠ none := by
        obtain ⟨vs, e, _⟩ := vh
        rw [e]
        exact fun z => nomatch z
      have w4' : H4 pw ≠ none := by
        obtain ⟨vs, e, _⟩ := vw
        rw [e]
        exact fun z => nomatch z
      refine ⟨s34.trans (hid_mono (sD.trans s6)), w5.same s6, fun p hp => ?_, ?_, (vh.same sD).same s6, (vw.same sD).same s6, s6 _ _ e5, by rw [l5, a1.1], fun x r hr => ((r5 r (List.mem_of_getElem? hr)).2).same s6, ⟨[], upd_same, .nil⟩⟩
      · simp only [List.mem_cons] at hp
        rcases hp with rfl | rfl | rfl | rfl | hp
        · exact ⟨nh, nha⟩
        · exact ⟨nwH, nwa⟩
        · exact all4 _ npp
        · exact all4 _ np5
        · exact all4 _ (r5 _ hp).1
      · simp only [List.nodup_cons, List.mem_cons, not_or]
        refine ⟨⟨hhw, fun z => h4 (z ▸ npp), fun z => h4 (z ▸ np5), fun z => h4 (r5 _ z).1⟩, ⟨fun z => w4' (z ▸ npp), fun z => w4' (z ▸ np5), fun z => w4' (r5 _ z).1⟩, ⟨fun z => ?_, nd.1⟩, fun z => ?_, nd.2⟩
        · rw [← z, e5] at nps
          cases nps
        · obtain ⟨vs', ev, _⟩ := (r5 _ z).2
          rw [ev] at nps
          cases nps
    generalize upd H5 ps (.lst []) = H6 at F0
    -- all spots
    have q16 : ∀ {H'}, Same (hid a H) (hid a H') → SqL K H' p1 xs1 := fun s => (s.trans hid_same).seq (SqL.of e1)
    have q26 : ∀ {H'}, Same (hid a H) (hid a H') → SqL K H' p2 xs2 := fun s => (s.trans hid_same).seq (SqL.of e2)
    refine ⟨_, rfl, p1, xs1, rfl, .inl (q16 F0.same), _, rfl, by omega, by rw [a1.1]; omega, for_range (fun i σ H' => ∃ z7 z8 z9 z10, σ = [some (.ref a), some (.ref p1), some (.ref p2), some (.ref ph), some (.ref pw), some (.ref pp), some (.ref ps), z7, z8, z9, z10] ∧ FillAt H a (n + 150) pl.length ql.length ph pw pp ps rs (at0 pl) (at0 ql) (fun _ _ => 0) (spotsTo ql.length i) H') ⟨_, _, _, _, rfl, F0⟩ (fun i σ H' hi h => ?_) (fun σ H' h => ?_)⟩
    · obtain ⟨z7, z8, z9, z10, rfl, F⟩ := h
      obtain ⟨sv0, esv0, _⟩ := F.spots
      refine ⟨_, rfl, .inl ⟨rfl, _, SqL.of esv0⟩, _, rfl, p2, xs2, rfl, .inl (q26 F.same), _, rfl, by omega, by rw [a2.1]; omega, fun D nD => lc_allR (fun j y G => IsTup2 G y (i : Int) (j : Int)) (fun _ _ _ _ s h => h.mono s) nD (by rw [Int.toNat_natCast, a2.1]; omega) (fun j H7 kk hj s7 eD hk => ?_) (fun H7 ys s7 e7 l7 r7 => ?_)⟩
      · refine ⟨rfl, _, rfl, _, rfl, by show 2 ≤ sizeLine; decide, fun t nt => ?_⟩
        have st := same_upd (o := .tup [.int (0 + (i : Int)), .int (0 + (j : Int))]) nt
        refine hk _ _ st (IsTup2.hidL ?_ ⟨t, rfl, ?_⟩)
        · obtain ⟨ys', e'⟩ := eD
          exact ⟨ys', st _ _ e'⟩
        · rw [upd_same, Int.zero_add, Int.zero_add]
      · have s77 : Same H' H7 := s7.trans hid_same
        have F7 := F.keep (hid_mono s77) (F.well.same s77)
        obtain ⟨sv, esv, asv⟩ := F7.spots
        have lsv : sv.length ≤ 144 := by
          rw [asv.1, spotsTo_len]
          have : i < 12 := by rw [a1.1] at hi; omega
          exact Nat.mul_le_mul (Nat.le_of_lt this) k12
        refine ⟨ps, D, sv, ys, rfl, rfl, esv, e7, Nat.le_of_lt (small1000 (by rw [l7, Int.toNat_natCast, a2.1]; omega)), ?_⟩
        refine ⟨_, _, _, _, rfl, ?_⟩
        have := F7.ext (more := (List.range ql.length).map fun y => (i, y)) esv (ys := ys) (.of_ix (by rw [l7, List.length_map, List.length_range, Int.toNat_natCast, a2.1]) fun j y hy => ⟨(i, j), ?_, (r7 j y hy).mono hid_same⟩)
        · exact this
        · have := (List.getElem?_eq_some_iff.mp hy).1
          rw [List.getElem?_map, List.getElem?_range (by rw [l7, Int.toNat_natCast, a2.1] at this; exact this)]
          rfl
    · obtain ⟨z7, z8, z9, z10, rfl, F⟩ := h
      rw [Int.toNat_natCast, a1.1] at F
      obtain ⟨S, S0, S1, M0⟩ := FillM.start okp okq
      have l0 : (spotsTo ql.length pl.length).length ≤ 144 := by
        rw [spotsTo_len]
        exact Nat.mul_le_mul m12 k12
      -- filling
      refine ⟨fun c σ H' => ∃ z7 z8 z9 z10 h g Tb sp, σ = [some (.ref a), some (.ref p1), some (.ref p2), some (.ref ph), some (.ref pw), some (.ref pp), some (.ref ps), z7, z8, z9, z10] ∧ c = sp.length ∧ sp.length ≤ 144 ∧ FillAt H a (n + sp.length) pl.length ql.length ph pw pp ps rs h g Tb sp H' ∧ FillM pl.length ql.length (at0 pl) (at0 ql) S h g Tb sp, ⟨_, _, _, _, _, _, _, _, _, rfl, rfl, l0, F.keep (Same.refl _) (F.well.mono (by omega)), M0⟩, fun c σ H' hW => ?_⟩
      obtain ⟨z7, z8, z9, z10, h, g, Tb, sp, rfl, rfl, l1, F, M⟩ := hW
      obtain ⟨sv, esv, asv⟩ := F.spots
      refine ⟨_, rfl, Nat.zero_le _, fun e0 n0 => ?_⟩
      have sE := same_upd (o := .lst []) n0
      have F := F.keep (hid_mono sE) (F.well.same sE)
      have esv := sE _ _ esv
      have asv := asv.imp fun _ _ r => r.mono sE
      refine ⟨ps, e0, sv, rfl, rfl, SqL.of esv, sqL_new, _, rfl, ite2 (fun hb => ?_) (fun hb => ?_)⟩
      · have hne : sp ≠ [] := fun z => by
          rw [z] at asv
          have : sv = [] := List.length_eq_zero_iff.mp asv.1
          subst this
          exact absurd hb (by simp)
        have lpos : 0 < sp.length := List.length_pos_iff.mpr hne
        generalize upd H' e0 (.lst []) = H8 at *
        refine ⟨fun σ H' => ∃ z7 z8 z9 z10 h g Tb sp', σ = [some (.ref a), some (.ref p1), some (.ref p2), some (.ref ph), some (.ref pw), some (.ref pp), some (.ref ps), z7, z8, z9, z10] ∧ sp'.length + 1 = sp.length ∧ FillAt H a (n + sp'.length) pl.length ql.length ph pw pp ps rs h g Tb sp' H' ∧ FillM pl.length ql.length (at0 pl) (at0 ql) S h g Tb sp', fun σ' H'' hN => ?_, ?_⟩
        · obtain ⟨z7, z8, z9, z10, h, g, Tb, sp', rfl, l2, F2, M2⟩ := hN
          exact ⟨_, by omega, _, _, _, _, _, _, _, _, rfl, rfl, by omega, F2, M2⟩
        · -- a spot is drawn
          refine ⟨_, rfl, .inl ⟨rfl, _, SqL.of esv⟩, _, rfl, _, rfl, ps, sv, rfl, .inl (SqL.of esv), a, (sv.length : Nat), n + sp.length - 1, rfl, F.well.mono (by omega), by rw [asv.1]; omega, log_small (by rw [asv.1]; omega), fun d H9 d0 d1 s9 w9 => ?_⟩
          have F9 := F.keep s9 w9
          obtain ⟨sv', esv9, asv9⟩ := F9.spots
          have esame : sv' = sv := by
            have := s9 ps _ (by rw [hid_ne (F.new ps (by simp)).2]; exact esv)
            rw [hid_ne (F.new ps (by simp)).2, esv9] at this
            cases this
            rfl
          subst esame
          have hd : d.toNat < sv'.length := by omega
          obtain ⟨⟨x, y⟩, hxy, ⟨pt, ept, ht⟩⟩ := asv9.at (List.getElem?_eq_getElem hd)
          obtain ⟨hx, hy⟩ := M.inb _ (List.mem_of_getElem? hxy)
          simp only at hx hy ht
          refine ⟨ps, sv', d, d.toNat, _, rfl, rfl, esv9, by omega, by rw [asv.1] at d1; omega, ?_, List.getElem?_eq_getElem hd, ?_⟩
          · have h1 : ¬ d < 0 := by omega
            simp only [seqIndex?, if_neg h1, decide_eq_true d0, decide_eq_true d1, Bool.and_self, if_true]
          have F10 := F9.pop (j := d.toNat) esv9
          have t10 : TS H9 _ := TS.lst (o := .lst (sv'.eraseIdx d.toNat)) esv9
          have ht := t10 _ _ ht
          rw [ept]
          generalize upd H9 ps (.lst (sv'.eraseIdx d.toNat)) = H10 at *
          refine ⟨pt, _, rfl, .inl (.inl ht), rfl, _, _, rfl, _, _, rfl, rfl, ?_⟩
          -- how much
          obtain ⟨hvs, hv1, eh, lh, gh, ih⟩ := F10.have_.at hx
          obtain ⟨wvs, wv1, ew, lw, gw, iw⟩ := F10.want.at hy
          have bh : Bd 4000 (h x) := (bd_frac (M.h0 x hx).1 (M.h0 x hx).2.1 S0 S1 (M.h0 x hx).2.2).mono (by decide)
          have bw : Bd 4000 (g y) := (bd_frac (M.g0 y hy).1 (M.g0 y hy).2.1 S0 S1 (M.g0 y hy).2.2).mono (by decide)
          have ixn : ∀ {l : List V} {j : Nat}, j < l.length → ixN l.length (j : Int) = some j := fun {l j} hj => by
            unfold ixN
            rw [if_pos (by omega), if_pos (by omega), Int.toNat_natCast]
          refine ⟨_, rfl, _, rfl, pw, _, _, _, rfl, rfl, SqL.of ew, atI_nat gw, _, rfl, _, rfl, ph, _, _, _, rfl, rfl, SqL.of eh, atI_nat gh, _, _, _, _, rfl, iw, ih, bw, bh, _, rfl, ?_⟩
          refine (if hlt : g y < h x then ?_ else ?_)
          rw [decide_eq_true hlt]
          refine iteT ⟨_, rfl, _, rfl, pw, _, _, _, rfl, rfl, SqL.of ew, atI_nat gw, ?_⟩
          obtain ⟨z, ⟨pA, epA, hA⟩, bz, ez⟩ : ∃ z, IsPr H10 wv1 z ∧ Bd 4000 z ∧ z = (if g y < h x then g y else h x) := ⟨_, iw, bw, (if_pos hlt).symm⟩
          rotate_left
          rw [decide_eq_false hlt]
          refine iteF ⟨_, rfl, _, rfl, ph, _, _, _, rfl, rfl, SqL.of eh, atI_nat gh, ?_⟩
          obtain ⟨z, ⟨pA, epA, hA⟩, bz, ez⟩ : ∃ z, IsPr H10 hv1 z ∧ Bd 4000 z ∧ z = (if g y < h x then g y else h x) := ⟨_, ih, bh, (if_neg hlt).symm⟩
          all_goals rw [epA]
          all_goals clear hlt epA
          all_goals (
            -- it is put
            have hxr : x < rs.length := by rw [F10.rlen]; exact hx
            have hr : rs[x]? = some rs[x] := List.getElem?_eq_getElem hxr
            obtain ⟨rvs, rv1, er, lr, _, _⟩ := (F10.rows x _ hr).at hy
            refine ⟨_, rfl, _, rfl, _, rfl, pp, _, _, _, rfl, rfl, SqL.of F10.tab, atI_nat (by rw [List.getElem?_map, hr]; rfl), _, rfl, rs[x], rvs, _, y, rfl, rfl, er, ixn (by omega), ?_⟩
            have F11 := F10.setR (y := y) hr er (v := .ref pA) (z := z) ⟨pA, rfl, hA⟩
            have hA := TS.lst (o := .lst (rvs.set y (.ref pA))) er _ _ hA
            generalize upd H10 rs[x] (.lst (rvs.set y (.ref pA))) = H11 at *
            clear eh lh gh ih ew lw gw iw
            -- less here
            have neg : ∀ {q : Rat}, Rat.divInt q.num (q.den : Int) + Rat.divInt (0 - z.num) (z.den : Int) = q - z := fun {q} => by
              rw [Int.zero_sub, ← Rat.neg_divInt, divInt_self, divInt_self, ← Rat.sub_eq_add_neg]
            have lz : (0 - z.num).natAbs < 2 ^ 4000 := by
              have := bz.num
              rw [Int.zero_sub, Int.natAbs_neg]
              exact this
            obtain ⟨hvs, hv1, eh, lh, gh, ih⟩ := F11.have_.at hx
            refine ⟨_, rfl, _, rfl, ph, _, _, _, rfl, rfl, SqL.of eh, atI_nat gh, _, rfl, pA, _, _, _, rfl, rfl, .inl (.inl hA), atI_nat (j := 0) rfl, _, _, rfl, rfl, _, rfl, pA, _, _, _, rfl, rfl, .inl (.inl hA), atI_nat (j := 1) rfl, by show 2 ≤ sizeLine; decide, fun t nt => ?_⟩
            have st := same_upd (o := .tup [.int (0 - z.num), .int (z.den : Int)]) nt
            refine ⟨_, _, _, _, _, _, rfl, ih.mono st, ⟨t, rfl, upd_same⟩, bh.num, den_abs bh, lz, den_abs bz, den_ne _, den_ne _, fun H13 r13 s13 h13 => ?_⟩
            have h13 : IsPr H13 r13 (h x - z) := by rw [← neg]; exact h13
            have s1113 := st.trans s13
            have F13 := F11.keep (hid_mono s1113) (F11.well.same s1113)
            have eh := s1113 _ _ eh
            have hA := s1113 _ _ hA
            refine ⟨_, rfl, _, rfl, ph, hvs, _, x, rfl, rfl, eh, ixn (by omega), ?_⟩
            have F14 := F13.setH (j := x) eh h13
            have hA := TS.lst (o := .lst (hvs.set x r13)) eh _ _ hA
            generalize upd H13 ph (.lst (hvs.set x r13)) = H14 at *
            -- less there
            obtain ⟨wvs, wv1, ew, lw, gw, iw⟩ := F14.want.at hy
            refine ⟨_, rfl, _, rfl, pw, _, _, _, rfl, rfl, SqL.of ew, atI_nat gw, _, rfl, pA, _, _, _, rfl, rfl, .inl (.inl hA), atI_nat (j := 0) rfl, _, _, rfl, rfl, _, rfl, pA, _, _, _, rfl, rfl, .inl (.inl hA), atI_nat (j := 1) rfl, by show 2 ≤ sizeLine; decide, fun t' nt' => ?_⟩
            have st' := same_upd (o := .tup [.int (0 - z.num), .int (z.den : Int)]) nt'
            refine ⟨_, _, _, _, _, _, rfl, iw.mono st', ⟨t', rfl, upd_same⟩, bw.num, den_abs bw, lz, den_abs bz, den_ne _, den_ne _, fun H15 r15 s15 h15 => ?_⟩
            have h15 : IsPr H15 r15 (g y - z) := by rw [← neg]; exact h15
            have s1415 := st'.trans s15
            have F15 := F14.keep (hid_mono s1415) (F14.well.same s1415)
            have ew := s1415 _ _ ew
            refine ⟨_, rfl, _, rfl, pw, wvs, _, y, rfl, rfl, ew, ixn (by omega), ?_⟩
            have F16 := F15.setW (j := y) ew h15
            have dl : d.toNat < sp.length := (List.getElem?_eq_some_iff.mp hxy).1
            have le := List.length_eraseIdx_of_lt dl
            exact ⟨_, _, _, _, _, _, _, _, rfl, by rw [le]; omega, F16.keep (Same.refl _) (F16.well.mono (by rw [le]; omega)), M.step S0 hxy ez⟩)
      · have hsp : sp = [] := by
          have : sv = [] := by
            cases sv with
            | nil => rfl
            | cons _ _ => exact absurd rfl hb
          rw [this] at asv
          exact List.length_eq_zero_iff.mp asv.1.symm
        subst hsp
        have tot : rsumN pl.length (at0 pl) = rsumN ql.length (at0 ql) := by
          rw [rsumN_at0, rsumN_at0, okp.one, okq.one]
        obtain ⟨er, ec⟩ := M.end_ tot
        have np := F.new pp (by simp)
        refine ⟨_, rfl, q _ pp Tb np.1 F.same F.well ⟨pp, _, rfl, by rw [hid_ne np.2]; exact F.tab, .of_ix (by simp [tblOf, F.rlen]) fun i v hv => ?_⟩ ⟨er, ec, fun x y hx hy => ⟨(M.t0 x y hx hy).1, bd_frac (M.t0 x y hx hy).1 (M.t0 x y hx hy).2.1 S0 S1 (M.t0 x y hx hy).2.2⟩, ⟨S, S0, S1, fun x y hx hy => (M.t0 x y hx hy).2⟩⟩⟩
        rw [List.getElem?_map] at hv
        obtain ⟨r, hr, rfl⟩ := Option.map_eq_some_iff.mp hv
        have hi := (List.getElem?_eq_some_iff.mp hr).1
        refine ⟨(List.range ql.length).map (Tb i), ?_, ((F.rows i r hr).hidN F.well (F.new r ?_).2).prs⟩
        · unfold tblOf
          rw [List.getElem?_map, List.getElem?_range (by rw [← F.rlen]; exact hi)]
          rfl
        · have := List.mem_of_getElem? hr
          simp [this]
end

end Fb

namespace Fb
open PySem PySem.Spec PyProof.Rows L2
section
variable {P : Program} {w : World} {K : PySem.W.Frag} {mg : Str → Option Value} {base : Heap}
/-- two shares, of which a share is made -/
def spOp2 (C : Addr) (f : Rat → Rat → Rat) (ok : Rat → Prop) : Sp := fun vs H Q _ => ∃ (v u : V) (x y : Rat), vs = [v, u] ∧ IsShare C H v x ∧ IsShare C H u y ∧ Bd 4000 x ∧ Bd 4000 y ∧ ok y ∧ ∀ H' r, Same H H' → IsShare C H' r (f x y) → Q r H'
theorem ok_p_minus (T : Txt K mg) : FnOk P w K mg base CX0 4 T.f_p_minus T.d_p_minus ["one", "other"] (spOp2 T.c_Share (· - ·) fun _ => True) := by
  refine T.F_p_minus.ok sc_p_minus (fun vs H Q E h => ?_) (fun cdv A outer s H vs Q E hr h => ?_)
  · obtain ⟨v, u, x, y, rfl, _⟩ := h
    rfl
  · obtain ⟨v, u, x, y, rfl, ⟨p, dx, rfl, hx⟩, ⟨p', dx', rfl, hy⟩, bx, by_, _, q⟩ := h
    refine ⟨_, (pss_one (ps_ret (pe_make T.M_Share (ok_m_Share_init T) (hr.mono (by decide)) (by rfl) T.g_Share T.b_m_Share_init .nil pass0 (pa_cons (pe_op op_sub (pe_op op_mulW (pe_fld (pv 0) rfl) (pe_fld (pv 1) rfl)) (pe_op op_mulW (pe_fld (pv 1) rfl) (pe_fld (pv 0) rfl))) (pa_cons (pe_op op_mulW (pe_fld (pv 0) rfl) (pe_fld (pv 1) rfl)) pa_nil))))), ?_⟩
    refine ⟨_, rfl, _, _, _, _, _, rfl, hx, T.cl_Share, T.n_Share_top, flds_top _, _, rfl, _, _, _, _, _, rfl, hy, T.cl_Share, T.n_Share_bottom, flds_bottom _, _, _, rfl, rfl, wide_mul bx.num (den_abs by_) (by decide) (by decide) (by decide), _, rfl, _, _, _, _, _, rfl, hy, T.cl_Share, T.n_Share_top, flds_top _, _, rfl, _, _, _, _, _, rfl, hx, T.cl_Share, T.n_Share_bottom, flds_bottom _, _, _, rfl, rfl, wide_mul by_.num (den_abs bx) (by decide) (by decide) (by decide), _, _, rfl, rfl,
      _, rfl, _, _, _, _, _, rfl, hx, T.cl_Share, T.n_Share_bottom, flds_bottom _, _, rfl, _, _, _, _, _, rfl, hy, T.cl_Share, T.n_Share_bottom, flds_bottom _, _, _, rfl, rfl, wide_mul (den_abs bx) (den_abs by_) (by decide) (by decide) (by decide), ?_⟩
    refine mk_share (dens_ne x y) (log_of (by decide) (wide_lt (den_abs bx) (den_abs by_)) (by decide)) fun H' r sm hr' => ?_
    rw [rat_sub] at hr'
    exact q H' _ sm hr'
end

end Fb

namespace Fb
open PySem PySem.Spec PyProof.Rows L2
section
variable {P : Program} {w : World} {K : PySem.W.Frag} {mg : Str → Option Value} {base : Heap}
/-! ### rows and tables of anything -/
def odd (v : V) : Prop := v = .int 0 ∨ v = .non ∨ v = .str "0" ∨ v = .bl true
def IsMd (C : Addr) (H : Hp) (v : V) : Option Rat → Prop
  | some q => IsShare C H v q
  | none => odd v
theorem IsMd.mono {C : Addr} {H H' : Hp} {v : V} {o : Option Rat} (s : Same H H') (h : IsMd C H v o) : IsMd C H' v o := by
  cases o with
  | none => exact h
  | some q => exact IsShare.mono h s
def IsL {α : Type} (R : Hp → V → α → Prop) (H : Hp) (v : V) (xs : List α) : Prop := ∃ p vs, v = .ref p ∧ H p = some (.lst vs) ∧ AllAre (R H) vs xs
theorem IsL.mono {α : Type} {R : Hp → V → α → Prop} (m : ∀ H H' v x, Same H H' → R H v x → R H' v x) {H H' : Hp} {v : V} {xs : List α} (s : Same H H') (h : IsL R H v xs) : IsL R H' v xs := by
  obtain ⟨p, vs, e, h, a⟩ := h
  exact ⟨p, vs, e, s _ _ h, a.imp fun _ _ r => m _ _ _ _ s r⟩
theorem TyX.mono {K : PySem.W.Frag} {H H' : Hp} {v : V} {t : Value} (s : Same H H') (h : TyX K H v t) : TyX K H' v t := by
  cases h with
  | base h =>
    cases h with
    | non => exact .base .non
    | bl x => exact .base (.bl x)
    | int i => exact .base (.int i)
    | str x => exact .base (.str x)
    | flt x => exact .base (.flt x)
    | lst e => exact .base (.lst (s _ _ e))
    | frz e => exact .base (.frz (s _ _ e))
    | tup e => exact .base (.tup (s _ _ e))
    | dK e => exact .base (.dK (s _ _ e))
    | dT e => exact .base (.dT (s _ _ e))
    | ins e cl ha hn htk hm => exact .base (.ins (s _ _ e) cl ha hn htk hm)
  | byt b => exact .byt b
  | set e => exact .set (s _ _ e)
  | kList e c => exact .kList e c
  | kTuple e c => exact .kTuple e c
  | kDict e c => exact .kDict e c
  | fTuple e => exact .fTuple (s _ _ e)
  | fDict e => exact .fDict (s _ _ e)
def NoList (K : PySem.W.Frag) (H : Hp) (v : V) : Prop := ∃ t, TyX K H v t ∧ PySem.W.kitOne K t (.type "list") = some false
abbrev Row := Option (List (Option Rat))
def IsRw (K : PySem.W.Frag) (C : Addr) (H : Hp) (v : V) : Row → Prop
  | some its => IsL (IsMd C) H v its
  | none => NoList K H v
theorem IsRw.mono {K : PySem.W.Frag} {C : Addr} {H H' : Hp} {v : V} {r : Row} (s : Same H H') (h : IsRw K C H v r) : IsRw K C H' v r := by
  cases r with
  | none =>
    obtain ⟨t, ty, k⟩ := h
    exact ⟨t, TyX.mono s ty, k⟩
  | some its => exact IsL.mono (R := IsMd C) (fun _ _ _ _ s h => IsMd.mono s h) s h
def shOk (its : List (Option Rat)) (m : Nat) : Bool := decide (its.length = m) && its.all Option.isSome
def nnOk (o : Option Rat) : Bool := decide (0 ≤ o.getD 0)
def amOk (its : List (Option Rat)) (m : Nat) : Bool := shOk its m && its.all nnOk
def onRow (f : List (Option Rat) → Nat → Bool) (m : Nat) : Row → Bool
  | some its => f its m
  | none => false
def spRow (K : PySem.W.Frag) (C : Addr) (f : List (Option Rat) → Nat → Bool) : Sp := fun vs H Q _ => ∃ (v : V) (m : Nat) (r : Row), vs = [v, .int m] ∧ IsRw K C H v r ∧ (∀ its, r = some its → its.length ≤ 900) ∧ ∀ H', Same H H' → Q (.bl (onRow f m r)) H'
theorem bools_of {α : Type} {ys : List V} {xs : List α} {f : α → Bool} (l : ys.length = xs.length) (h : ∀ (i : Nat) y, ys[i]? = some y → ∃ x, xs[i]? = some x ∧ y = .bl (f x)) : ys = (xs.map f).map V.bl := by
  refine List.ext_getElem? fun i => ?_
  by_cases hi : i < ys.length
  · obtain ⟨x, hx, e⟩ := h i _ (List.getElem?_eq_getElem hi)
    rw [List.getElem?_eq_getElem hi, e, List.map_map, List.getElem?_map, hx]
    rfl
  · rw [List.getElem?_eq_none (by omega), List.getElem?_eq_none (by rw [List.length_map, List.length_map]; omega)]
theorem all_map_id {α : Type} (xs : List α) (f : α → Bool) : (xs.map f).all id = xs.all f := by
  rw [List.all_map]
  rfl
theorem ok_p_are_shares (T : Txt K mg) : FnOk P w K mg base CX0 1 T.f_p_are_shares T.d_p_are_shares ["thing", "many"] (spRow K T.c_Share shOk) := by
  refine T.F_p_are_shares.ok sc_p_are_shares (fun vs H Q E h => ?_) (fun cdv A outer s H vs Q E hr h => ?_)
  · obtain ⟨v, m, r, rfl, _⟩ := h
    rfl
  · obtain ⟨v, m, r, rfl, hv, hlen, q⟩ := h
    refine ⟨_, (pss_one (ps_ret (pe_and (pe_callB call_isi (by rfl) T.z_isinstance (by decide +kernel) (pa_cons (pv 0) (pa_cons (pe_bltn (v := .ty "list") (by rfl) T.z_list (by decide +kernel) rfl) pa_nil))) (pe_and (pe_cmpR op_eq (pe_callB call_len_seq (by rfl) T.z_len (by decide +kernel) (pa_cons (pv 0) pa_nil)) (pv 1) (nomark _)) (pe_one (pe_callB (cr_all rfl) (by rfl) T.z_all (by decide +kernel) (pa_cons (pe_lc (own := [("each", 2)]) (g := (gName 2)) (tt := tYes) (by rfl) sc_p_are_shares.nd (pi_list (pv 0)) (blkOk_by (own := [("each", 2)]) (N := ["thing", "many", "each"]) (sc := defScope s_p_are_shares) (by decide +kernel)) (fun _ _ _ _ _ => by exact (pg_name (i := 2) sc_p_are_shares.nd rfl (.inl rfl))) (fun _ _ _ _ _ => by exact pts_nil) (fun _ _ _ _ _ => by exact (pe_callB (call_isiK (K := K) rfl) (by rfl) T.z_isinstance (by decide +kernel) (pa_cons (pv 2) (pa_cons (pe_glob (v := .ref T.c_Share) (by rfl) T.g_Share rfl) pa_nil))))) pa_nil))))))), ?_⟩
    cases r with
    | none =>
      obtain ⟨t, ty, kt⟩ := hv
      exact ⟨_, rfl, _, _, _, _, false, rfl, .ty _, ty, kt, false, rfl, iteF (q H (Same.refl _))⟩
    | some its =>
      obtain ⟨p, ws, rfl, hp, aa⟩ := hv
      refine ⟨_, rfl, _, _, _, _, true, rfl, .ty _, .base (.lst hp), kit_ty (by decide +kernel), true, rfl, iteT ?_⟩
      refine ⟨_, rfl, p, ws, rfl, .inl (SqL.of hp), _, rfl, rfl, _, rfl, ?_⟩
      by_cases hl : its.length = m
      · rw [decide_eq_true (show V.int (ws.length : Int) = V.int (m : Int) by rw [aa.1, hl])]
        refine iteT ?_
        have l9 := hlen its rfl
        refine ⟨_, rfl, p, rfl, ⟨_, SqL.of hp⟩, fun D nD => lc_all (K := K) (a := p) (xs := ws) (fun i y _ => ∃ o, its[i]? = some o ∧ y = .bl o.isSome) (fun _ _ _ _ _ h => h) nD (SqL.of hp) (by rw [aa.1]; omega) (fun i x H2 k hi s2 _ hk => ?_) (fun H2 ys s2 e l r => ?_)⟩
        · obtain ⟨o, ho, hx⟩ := aa.at hi
          have hx := IsMd.mono (s2.trans hid_same) hx
          refine ⟨rfl, ?_⟩
          cases o with
          | some z =>
            obtain ⟨px, dx, rfl, h7⟩ := hx
            exact ⟨_, rfl, _, _, _, _, true, rfl, .own _, tyShare T h7, T.k_Share, hk _ _ (Same.refl _) ⟨_, ho, rfl⟩⟩
          | none =>
            rcases hx with rfl | rfl | rfl | rfl
            · exact ⟨_, rfl, _, _, _, _, false, rfl, .own _, .base (.int 0), T.k_Share_int, hk _ _ (Same.refl _) ⟨_, ho, rfl⟩⟩
            · exact ⟨_, rfl, _, _, _, _, false, rfl, .own _, .base .non, T.k_Share_NoneType, hk _ _ (Same.refl _) ⟨_, ho, rfl⟩⟩
            · exact ⟨_, rfl, _, _, _, _, false, rfl, .own _, .base (.str _), T.k_Share_str, hk _ _ (Same.refl _) ⟨_, ho, rfl⟩⟩
            · exact ⟨_, rfl, _, _, _, _, false, rfl, .own _, .base (.bl true), T.k_Share_bool, hk _ _ (Same.refl _) ⟨_, ho, rfl⟩⟩
        · have e' := bools_of (xs := its) (by rw [l, aa.1]) r
          rw [e'] at e
          refine ⟨D, its.map Option.isSome, rfl, SqL.of e, ?_⟩
          have := q H2 (s2.trans hid_same)
          rw [all_map_id]
          simpa [onRow, shOk, hl] using this
      · rw [decide_eq_false (show ¬ V.int (ws.length : Int) = V.int (m : Int) from fun z => hl (by have := V.int.inj z; rw [← aa.1]; omega))]
        refine iteF ?_
        have := q H (Same.refl _)
        simpa [onRow, shOk, hl] using this
theorem shOk_all {its : List (Option Rat)} {m : Nat} (h : shOk its m = true) : its.length = m ∧ ∀ o ∈ its, ∃ q, o = some q := by
  unfold shOk at h
  rw [Bool.and_eq_true, List.all_eq_true] at h
  exact ⟨of_decide_eq_true h.1, fun o ho => Option.isSome_iff_exists.mp (h.2 o ho)⟩
def ratsOf (r : Row) : List Rat := (r.getD []).map (·.getD 0)
theorem sh_shares {C : Addr} {H : Hp} {v : V} {r : Row} {k : Nat} (h : IsRw K C H v r) (ok : onRow shOk k r = true) : IsShares C H v (ratsOf r) ∧ (ratsOf r).length = k := by
  cases r with
  | none => cases ok
  | some its =>
    obtain ⟨hl, hall⟩ := shOk_all ok
    obtain ⟨p, vs, rfl, e, a⟩ := h
    refine ⟨⟨p, vs, rfl, e, .of_ix (by simp [ratsOf, a.1]) fun i y hy => ?_⟩, by simp [ratsOf, hl]⟩
    obtain ⟨o, ho, hx⟩ := a.at hy
    obtain ⟨q, rfl⟩ := hall o (List.mem_of_getElem? ho)
    exact ⟨q, by simp [ratsOf, ho], hx⟩
theorem sh_bd {n : Nat} {r : Row} {k : Nat} (ok : onRow shOk k r = true) (h : ∀ its, r = some its → ∀ q, some q ∈ its → Bd n q) : ∀ q ∈ ratsOf r, Bd n q := by
  cases r with
  | none => cases ok
  | some its =>
    obtain ⟨_, hall⟩ := shOk_all ok
    intro q hq
    obtain ⟨o, ho, rfl⟩ := List.mem_map.mp hq
    obtain ⟨z, rfl⟩ := hall o ho
    exact h its rfl z ho
end

end Fb

namespace Fb
open PySem PySem.Spec PyProof.Rows L2
section
variable {P : Program} {w : World} {K : PySem.W.Frag} {mg : Str → Option Value} {base : Heap}
/-! ### joined -/
def rowAt (qss : List (List Rat)) (i : Nat) : List Rat := qss.getD i []
theorem rowAt_of {qss : List (List Rat)} {i : Nat} {qs : List Rat} (h : qss[i]? = some qs) : rowAt qss i = qs := by
  unfold rowAt
  rw [List.getD_eq_getElem?_getD, h]
  rfl
def spJoined (C : Addr) : Sp := fun vs H Q _ => ∃ (v : V) (qss : List (List Rat)), vs = [v] ∧ IsTbl (IsShares C) H v qss ∧ qss.length ≤ 12 ∧ (∀ qs ∈ qss, qs.length ≤ 12) ∧ ∀ H' r, Same H H' → IsShares C H' (.ref r) qss.flatten → Q (.ref r) H'
theorem ok_p_joined (T : Txt K mg) : FnOk P w K mg base CX0 1 T.f_p_joined T.d_p_joined ["rows"] (spJoined T.c_Share) := by
  refine T.F_p_joined.ok sc_p_joined (fun vs H Q E h => ?_) (fun cdv A outer s H vs Q E hr h => ?_)
  · obtain ⟨v, qss, rfl, _⟩ := h
    rfl
  · obtain ⟨v, qss, rfl, ⟨p, ws, rfl, hp, aa⟩, l1, l2, q⟩ := h
    refine ⟨_, (pss_one (ps_ret (pe_lc2 (own := [("row", 1), ("thing", 2)]) (vs1 := [2]) (g := (gName 1)) (tt := tYes) (g1 := (gName 2)) (tt1 := tYes) (by rfl) sc_p_joined.nd (pi_list (pv 0)) (blkOk_by (own := [("row", 1), ("thing", 2)]) (N := ["rows", "row", "thing"]) (sc := defScope s_p_joined) (by decide +kernel)) (by decide) (fun _ _ _ _ _ => by exact (pg_name (i := 1) sc_p_joined.nd rfl (.inl rfl))) (fun _ _ _ _ _ => by exact pts_nil) (fun _ _ _ _ _ => by exact (pi_listK (K := K) rfl (pv 1))) (fun _ _ _ _ _ => by exact (pg_name (i := 2) sc_p_joined.nd rfl (.inl rfl))) (fun _ _ _ _ _ => by exact pts_nil) (fun _ _ _ _ _ => by exact (pv 2))))), ?_⟩
    have lw : ws.length = qss.length := aa.1
    refine ⟨_, rfl, p, rfl, ⟨_, SqL.of hp⟩, fun D nD => lc2_all (walk_list (K := K) (a := p) (xs := ws)) (fun i => (rowAt qss i).length) (fun i j y G => ∃ z, (rowAt qss i)[j]? = some z ∧ IsShare T.c_Share G y z) (fun _ _ _ _ _ s h => h.elim fun z f => ⟨z, f.1, f.2.mono s⟩) 12 (fun i hi => ?_) (by omega) nD (fun H' s => s.seq (SqL.of hp)) (fun i x H2 H3 kk hi s2 eD y hk => ?_) (fun H2 bs s2 e l r => ?_)⟩
    · have : i < qss.length := by omega
      rw [rowAt_of (List.getElem?_eq_getElem this)]
      exact l2 _ (List.getElem_mem this)
    · obtain ⟨rfl, hx⟩ := y
      obtain ⟨qs, hqs, pr, rvs, rfl, er, ar⟩ := aa.at hx
      have lr : (rowAt qss i).length = rvs.length := by rw [rowAt_of hqs, ar.1]
      have er2 := s2 _ _ er
      refine ⟨rfl, _, rfl, pr, rfl, ⟨_, SqL.of (hid_same _ _ er2)⟩, hk _ _ _ ⟨Same.refl _, fun H => SqL K H pr rvs, YAt rvs, by rw [lr]; exact walk_list, fun H5 s5 _ => SqL.of (hid_same _ _ (s5 _ _ er2)), fun j x1 H5 H6 k hj s5 eD5 y1 hk1 => ?_⟩⟩
      obtain ⟨rfl, hx1⟩ := y1
      obtain ⟨z, hz, h7⟩ := ar.at hx1
      exact ⟨rfl, _, rfl, hk1 _ _ (Same.refl _) ⟨z, by rw [rowAt_of hqs]; exact hz, h7.mono (s2.trans s5)⟩⟩
    · refine q H2 D (s2.trans hid_same) ⟨D, _, rfl, e, AllAre.flatten (by omega) fun i b xs hb hxs => ?_⟩
      have rb := r i b hb
      rw [rowAt_of hxs] at rb
      exact .of_ix rb.1 fun j y hy => by
        obtain ⟨z, hz, h7⟩ := rb.2 j y hy
        exact ⟨z, hz, h7.mono hid_same⟩
/-! ### weighed, cost_of, brought -/
structure Wgh (qs rs : List Rat) (a b : Nat) : Prop where
  la : lcmOn 1 qs < 2 ^ a
  lb : lcmOn 1 rs < 2 ^ b
  a0 : 0 < a
  b0 : 0 < b
  ab : a + b ≤ 8000
  bq : ∀ q ∈ qs, Bd 4000 q
  br : ∀ q ∈ rs, Bd 4000 q
  lq : qs.length ≤ 900
  lr : rs.length ≤ 900
def spWeighed (C : Addr) : Sp := fun vs H Q _ => ∃ (v u : V) (qs rs : List Rat) (a b : Nat), vs = [v, u] ∧ IsShares C H v qs ∧ IsShares C H u rs ∧ Wgh qs rs a b ∧ ∀ H' r, Same H H' → IsShare C H' r (dot qs rs) → Q r H'
theorem topsOf_lt {L : Nat} {qs : List Rat} {a : Nat} (hL : L < 2 ^ a) (b : ∀ q ∈ qs, Bd 4000 q) {i : Nat} {t : Int} (h : (topsOf L qs)[i]? = some t) : t.natAbs < 2 ^ (4000 + a) := by
  unfold topsOf at h
  rw [List.getElem?_map] at h
  obtain ⟨q, hq, rfl⟩ := Option.map_eq_some_iff.mp h
  exact wide_lt (b q (List.mem_of_getElem? hq)).num (nat_abs (Nat.lt_of_le_of_lt (Nat.div_le_self _ _) hL))
theorem ok_p_weighed (T : Txt K mg) : FnOk P w K mg base CX0 4 T.f_p_weighed T.d_p_weighed ["shares", "others"] (spWeighed T.c_Share) := by
  refine T.F_p_weighed.ok sc_p_weighed (fun vs H Q E h => ?_) (fun cdv A outer s H vs Q E hr h => ?_)
  · obtain ⟨v, u, qs, rs, a, b, rfl, _⟩ := h
    rfl
  · obtain ⟨v, u, qs, rs, a, b, rfl, hv, hu, W, q⟩ := h
    refine ⟨_, (pss_cons (ps_set (i := 2) sc_p_weighed.nd rfl (.inl rfl) (pe_call (ok_p_common_bottom T) (hr.mono (by decide)) (by rfl) T.g_p_common_bottom T.F_p_common_bottom.kp T.b_p_common_bottom .nil pass0 (pa_cons (pv 0) pa_nil)))
 (pss_cons (ps_set (i := 3) sc_p_weighed.nd rfl (.inl rfl) (pe_call (ok_p_common_bottom T) (hr.mono (by decide)) (by rfl) T.g_p_common_bottom T.F_p_common_bottom.kp T.b_p_common_bottom .nil pass0 (pa_cons (pv 1) pa_nil)))
 (pss_cons (ps_setLc (i := 4) (own := [("one", 5), ("other", 6)]) (g := (gTup K 2 (gCons (gName 5) (gCons (gName 6) gNil)))) (tt := tYes) (by rfl) sc_p_weighed.nd rfl rfl (sw_true rfl rfl rfl (by decide +kernel)) (pi_zip (by rfl) T.z_zip (pa_cons (pe_call (ok_p_tops_over T) (hr.mono (by decide)) (by rfl) T.g_p_tops_over T.F_p_tops_over.kp T.b_p_tops_over .nil pass0 (pa_cons (pv 2) (pa_cons (pv 0) pa_nil))) (pa_cons (pe_call (ok_p_tops_over T) (hr.mono (by decide)) (by rfl) T.g_p_tops_over T.F_p_tops_over.kp T.b_p_tops_over .nil pass0 (pa_cons (pv 3) (pa_cons (pv 1) pa_nil))) pa_nil))) (blkOk_by (own := [("one", 5), ("other", 6)]) (N := ["shares", "others", "unit", "grain", "parts", "one", "other"]) (sc := defScope s_p_weighed) (by decide +kernel)) (fun _ _ _ _ _ => by exact (pg_tup (by rfl) (pgs_cons (pg_name (i := 5) sc_p_weighed.nd rfl (.inl rfl)) (pgs_cons (pg_name (i := 6) sc_p_weighed.nd rfl (.inl rfl)) pgs_nil)))) (fun _ _ _ _ _ => by exact pts_nil) (fun _ _ _ _ _ => by exact (pe_op op_mulW (pv 5) (pv 6))))
 (pss_one (ps_ret (pe_make T.M_Share (ok_m_Share_init T) (hr.mono (by decide)) (by rfl) T.g_Share T.b_m_Share_init .nil pass0 (pa_cons (pe_callB (cr_sum rfl) (by rfl) T.z_sum (by decide +kernel) (pa_cons (pv 4) pa_nil)) (pa_cons (pe_op op_mulW (pv 2) (pv 3)) pa_nil)))))))), ?_⟩
    have ab := W.ab
    have a0 := W.a0
    have b0 := W.b0
    have hU := lcmOn_pos qs 1 (by decide)
    have hG := lcmOn_pos rs 1 (by decide)
    have up8 : ∀ {x c : Nat}, x < 2 ^ c → c ≤ 8001 → x < 2 ^ 8001 := fun h l => Nat.lt_of_lt_of_le h (Nat.pow_le_pow_right (by decide) l)
    have up9 : ∀ {x c : Nat}, x < 2 ^ c → c ≤ 9000 → x < 2 ^ 9000 := fun h l => Nat.lt_of_lt_of_le h (Nat.pow_le_pow_right (by decide) l)
    refine ⟨_, rfl, _, qs, rfl, hv, up8 W.la (by omega), ?_⟩
    refine ⟨_, rfl, _, rs, rfl, hu, up8 W.lb (by omega), ?_⟩
    refine ⟨_, rfl, _, rfl, _, lcmOn 1 qs, qs, 4000, rfl, hv, W.bq, by have := W.lq; omega, by decide, by decide, up9 W.la (by omega), fun H1 r1 _ s1 e1 => ?_⟩
    refine ⟨_, rfl, _, rfl, _, lcmOn 1 rs, rs, 4000, rfl, hu.mono s1, W.br, by have := W.lr; omega, by decide, by decide, up9 W.lb (by omega), fun H2 r2 _ s2 e2 => ?_⟩
    have e1' := s2 _ _ e1
    have lqs : ((topsOf (lcmOn 1 qs) qs).map V.int).length = qs.length := by simp [topsOf]
    have lrs : ((topsOf (lcmOn 1 rs) rs).map V.int).length = rs.length := by simp [topsOf]
    refine ⟨r1, r2, _, _, rfl, SqL.of e1', SqL.of e2, fun D nD => lc_allW (walk_zip (K := K) (a := r1) (b := r2) (n := (List.zipWith (· * ·) (topsOf (lcmOn 1 qs) qs) (topsOf (lcmOn 1 rs) rs)).length) (by simp)) (fun i y _ => ∃ t, (List.zipWith (· * ·) (topsOf (lcmOn 1 qs) qs) (topsOf (lcmOn 1 rs) rs))[i]? = some t ∧ y = .int t) (fun _ _ _ _ _ h => h) nD (fun H' s => ⟨s.seq (SqL.of e1'), s.seq (SqL.of e2)⟩) (by have := W.lq; simp [topsOf]; omega) (fun i x H3 H4 k hi s3 eD y hk => ?_) (fun H3 ys s3 e3 l3 r3 => ?_)⟩
    · obtain ⟨T1, x1, x2, rfl, nT, rfl, hx1, hx2⟩ := y
      dsimp only at hx1 hx2
      rw [List.getElem?_map] at hx1 hx2
      obtain ⟨t1, ht1, rfl⟩ := Option.map_eq_some_iff.mp hx1
      obtain ⟨t2, ht2, rfl⟩ := Option.map_eq_some_iff.mp hx2
      refine ⟨T1, _, rfl, .inl (.inl upd_same), rfl, _, _, rfl, _, _, rfl, rfl, rfl, ?_⟩
      refine ⟨_, rfl, _, rfl, _, _, rfl, rfl, wide_mul (topsOf_lt W.la W.bq ht1) (topsOf_lt W.lb W.br ht2) (by omega) (by omega) (by omega), hk _ _ (same_upd nT) ⟨t1 * t2, ?_, rfl⟩⟩
      rw [List.getElem?_zipWith, ht1, ht2]
    · have ey : ys = (List.zipWith (· * ·) (topsOf (lcmOn 1 qs) qs) (topsOf (lcmOn 1 rs) rs)).map V.int := by
        refine List.ext_getElem? fun i => ?_
        by_cases hi : i < ys.length
        · obtain ⟨t, ht, hy⟩ := r3 i _ (List.getElem?_eq_getElem hi)
          rw [List.getElem?_eq_getElem hi, hy, List.getElem?_map, ht]
          rfl
        · rw [List.getElem?_eq_none (by omega), List.getElem?_eq_none (by rw [List.length_map]; omega)]
      rw [ey] at e3
      have lt := wide_lt (nat_abs W.la) (nat_abs W.lb)
      refine ⟨_, rfl, D, _, rfl, SqL.of e3, _, rfl, _, rfl, _, _, rfl, rfl, wide_mul (nat_abs W.la) (nat_abs W.lb) a0 b0 (by omega), ?_⟩
      refine mk_share (Int.mul_ne_zero (by omega) (by omega)) (log_of (by omega) lt (by omega)) fun H' r' sm hr' => ?_
      rw [tops_dot hU hG qs rs (fun x hx => den_dvd_lcm qs 1 x hx) fun x hx => den_dvd_lcm rs 1 x hx] at hr'
      exact q H' _ (s1.trans (s2.trans (s3.trans (hid_same.trans sm)))) hr'
structure TblB (css : List (List Rat)) : Prop where
  len : css.length ≤ 12
  row : ∀ qs ∈ css, qs.length ≤ 12
def spCostOf (C : Addr) : Sp := fun vs H Q _ => ∃ (v u : V) (css pss : List (List Rat)) (a b : Nat), vs = [v, u] ∧ IsTbl (IsShares C) H v css ∧ IsTbl (IsShares C) H u pss ∧ TblB css ∧ TblB pss ∧ Wgh css.flatten pss.flatten a b ∧
  ∀ H' r, Same H H' → IsShare C H' r (dot css.flatten pss.flatten) → Q r H'
theorem tbl_mono {C : Addr} {H H' : Hp} {v : V} {qss : List (List Rat)} (h : IsTbl (IsShares C) H v qss) (s : Same H H') : IsTbl (IsShares C) H' v qss := IsTbl.mono (fun _ _ _ _ s h => h.mono s) h s
theorem ok_p_cost_of (T : Txt K mg) : FnOk P w K mg base CX0 5 T.f_p_cost_of T.d_p_cost_of ["costs", "plan"] (spCostOf T.c_Share) := by
  refine T.F_p_cost_of.ok sc_p_cost_of (fun vs H Q E h => ?_) (fun cdv A outer s H vs Q E hr h => ?_)
  · obtain ⟨v, u, css, pss, a, b, rfl, _⟩ := h
    rfl
  · obtain ⟨v, u, css, pss, a, b, rfl, hv, hu, t1, t2, W, q⟩ := h
    refine ⟨_, (pss_one (ps_ret (pe_call (ok_p_weighed T) (hr.mono (by decide)) (by rfl) T.g_p_weighed T.F_p_weighed.kp T.b_p_weighed .nil pass0 (pa_cons (pe_call (ok_p_joined T) (hr.mono (by decide)) (by rfl) T.g_p_joined T.F_p_joined.kp T.b_p_joined .nil pass0 (pa_cons (pv 0) pa_nil)) (pa_cons (pe_call (ok_p_joined T) (hr.mono (by decide)) (by rfl) T.g_p_joined T.F_p_joined.kp T.b_p_joined .nil pass0 (pa_cons (pv 1) pa_nil)) pa_nil))))), ?_⟩
    refine ⟨_, rfl, _, css, rfl, hv, t1.len, t1.row, fun H1 r1 s1 h1 => ?_⟩
    refine ⟨_, rfl, _, pss, rfl, tbl_mono hu s1, t2.len, t2.row, fun H2 r2 s2 h2 => ?_⟩
    exact ⟨_, _, _, _, a, b, rfl, h1.mono s2, h2, W, fun H3 r3 s3 h3 => q H3 r3 (s1.trans (s2.trans s3)) h3⟩
def spBrought (C : Addr) : Sp := fun vs H Q _ => ∃ (p : Addr) (x y f g : V) (hs ts ps qs : List Rat) (a b c d : Nat), vs = [.ref p, f, g] ∧ H p = some (.tup [x, y]) ∧ IsShares C H x hs ∧ IsShares C H y ts ∧ IsShares C H f ps ∧ IsShares C H g qs ∧ Wgh hs ps a b ∧ Wgh ts qs c d ∧ Bd 4000 (dot hs ps) ∧ Bd 4000 (dot ts qs) ∧
  ∀ H' r, Same H H' → IsShare C H' r (dot hs ps - dot ts qs) → Q r H'
theorem ok_p_brought (T : Txt K mg) : FnOk P w K mg base CX0 5 T.f_p_brought T.d_p_brought ["prices", "first", "second"] (spBrought T.c_Share) := by
  refine T.F_p_brought.ok sc_p_brought (fun vs H Q E h => ?_) (fun cdv A outer s H vs Q E hr h => ?_)
  · obtain ⟨p, x, y, f, g, hs, ts, ps, qs, a, b, c, d, rfl, _⟩ := h
    rfl
  · obtain ⟨p, x, y, f, g, hs, ts, ps, qs, a, b, c, d, rfl, hp, hx, hy, hf, hg, W1, W2, b1, b2, q⟩ := h
    refine ⟨_, (pss_cons (ps_asg (pv 0) (pg_tup (by rfl) (pgs_cons (pg_name (i := 3) sc_p_brought.nd rfl (.inl rfl)) (pgs_cons (pg_name (i := 4) sc_p_brought.nd rfl (.inl rfl)) pgs_nil))))
 (pss_one (ps_ret (pe_call (ok_p_minus T) (hr.mono (by decide)) (by rfl) T.g_p_minus T.F_p_minus.kp T.b_p_minus .nil pass0 (pa_cons (pe_call (ok_p_weighed T) (hr.mono (by decide)) (by rfl) T.g_p_weighed T.F_p_weighed.kp T.b_p_weighed .nil pass0 (pa_cons (pv 3) (pa_cons (pv 1) pa_nil))) (pa_cons (pe_call (ok_p_weighed T) (hr.mono (by decide)) (by rfl) T.g_p_weighed T.F_p_weighed.kp T.b_p_weighed .nil pass0 (pa_cons (pv 4) (pa_cons (pv 2) pa_nil))) pa_nil)))))), ?_⟩
    refine ⟨_, rfl, p, _, rfl, .inl (.inl hp), rfl, _, _, rfl, _, _, rfl, rfl, ?_⟩
    refine ⟨_, rfl, _, rfl, _, _, hs, ps, a, b, rfl, hx, hf, W1, fun H1 r1 s1 h1 => ?_⟩
    refine ⟨_, rfl, _, rfl, _, _, ts, qs, c, d, rfl, hy.mono s1, hg.mono s1, W2, fun H2 r2 s2 h2 => ?_⟩
    exact ⟨_, _, _, _, rfl, h1.mono s2, h2, b1, b2, trivial, fun H3 r3 s3 h3 => q H3 r3 (s1.trans (s2.trans s3)) h3⟩
/-! ### are_prices -/
def fits (hs ts : List Rat) (css : List (List Rat)) : Bool := (List.range css.length).all fun i => (List.range (rowAt css i).length).all fun j => decide (at0 hs i - at0 ts j ≤ at0 (rowAt css i) j)
def prB (r1 r2 : Row) (css : List (List Rat)) : Bool := onRow shOk css.length r1 && (onRow shOk (rowAt css 0).length r2 && fits (ratsOf r1) (ratsOf r2) css)
def NoTup (K : PySem.W.Frag) (H : Hp) (v : V) : Prop := ∃ t, TyX K H v t ∧ PySem.W.kitOne K t (.type "tuple") = some false
structure CostB (css : List (List Rat)) (k : Nat) : Prop where
  l0 : 0 < css.length
  l1 : css.length ≤ 12
  k0 : 0 < k
  k1 : k ≤ 12
  row : ∀ qs ∈ css, qs.length = k ∧ ∀ q ∈ qs, Bd 40 q
def RowB (n l : Nat) (r : Row) : Prop := ∀ its, r = some its → its.length ≤ l ∧ ∀ q, some q ∈ its → Bd n q
def spAreP (K : PySem.W.Frag) (C : Addr) : Sp := fun vs H Q _ => ∃ (v u : V) (css : List (List Rat)) (k : Nat), vs = [v, u] ∧ IsTbl (IsShares C) H u css ∧ CostB css k ∧
  ((NoTup K H v ∧ ∀ H', Same H H' → Q (.bl false) H') ∨ (∃ p xs, v = .ref p ∧ H p = some (.tup xs) ∧ xs.length ≠ 2 ∧ ∀ H', Same H H' → Q (.bl false) H') ∨
   ∃ p x y r1 r2, v = .ref p ∧ H p = some (.tup [x, y]) ∧ IsRw K C H x r1 ∧ IsRw K C H y r2 ∧ RowB 60 900 r1 ∧ RowB 60 900 r2 ∧ ∀ H', Same H H' → Q (.bl (prB r1 r2 css)) H')
theorem tops_le {L : Nat} (h0 : 0 < L) {x y c : Rat} (hx : x.den ∣ L) (hy : y.den ∣ L) (hc : c.den ∣ L) :
    (x.num * ((L / x.den : Nat) : Int) - y.num * ((L / y.den : Nat) : Int) ≤ c.num * ((L / c.den : Nat) : Int)) ↔ x - y ≤ c := by
  have ex := tops_one h0 hx
  have ey := tops_one h0 hy
  have ec := tops_one h0 hc
  have e : c - (x - y) = Rat.divInt (c.num * ((L / c.den : Nat) : Int) + (-(x.num * ((L / x.den : Nat) : Int)) + y.num * ((L / y.den : Nat) : Int))) (L : Int) := by
    rw [divInt_add_same, divInt_add_same, ← Rat.neg_divInt, ex, ey, ec]
    grind
  rw [Rat.le_iff_sub_nonneg, e, Rat.divInt_nonneg_iff_of_pos_right (by omega)]
  omega
theorem lcm_prices {hs ts : List Rat} {css : List (List Rat)} {k : Nat} (l1 : hs.length ≤ 12) (l2 : ts.length ≤ 12) (b1 : ∀ q ∈ hs, Bd 60 q) (b2 : ∀ q ∈ ts, Bd 60 q) (cb : CostB css k) : lcmOn 1 (hs ++ ts ++ css.flatten) < 2 ^ 8001 := by
  have h1 := lcmOn_lt hs 1 60 1 (fun q hq => (b1 q hq).den) (by decide)
  have h2 := lcmOn_lt ts _ 60 _ (fun q hq => (b2 q hq).den) h1
  have h3 := lcmOn_lt css.flatten _ 40 _ (fun q hq => by
    obtain ⟨qs, h, hq⟩ := List.mem_flatten.mp hq
    exact ((cb.row qs h).2 q hq).den) h2
  rw [lcmOn_app, lcmOn_app]
  refine Nat.lt_of_lt_of_le h3 (Nat.pow_le_pow_right (by decide) ?_)
  have fl : css.flatten.length ≤ css.length * 12 := by
    have : ∀ l : List (List Rat), (∀ qs ∈ l, qs.length ≤ 12) → l.flatten.length ≤ l.length * 12 := fun l => by
      induction l with
      | nil => intro _; simp
      | cons b r ih =>
        intro h
        have h1 := h b List.mem_cons_self
        have h2 := ih fun q hq => h q (List.mem_cons_of_mem _ hq)
        rw [List.flatten_cons, List.length_append, List.length_cons]
        omega
    exact this css fun qs h => by have := (cb.row qs h).1; have := cb.k1; omega
  have := cb.l1
  omega
theorem all_blocks {f : Nat → Nat → Bool} {m : Nat → Nat} : ∀ (n : Nat) (bs : List (List V)), bs.length = n → (∀ (i : Nat) b, bs[i]? = some b → b.length = m i ∧ ∀ (j : Nat) y, b[j]? = some y → y = .bl (f i j)) →
    ∃ ls : List Bool, bs.flatten = ls.map V.bl ∧ ls.all id = (List.range n).all fun i => (List.range (m i)).all (f i) := by
  intro n bs hl h
  refine ⟨((List.range n).map fun i => (List.range (m i)).map (f i)).flatten, ?_, ?_⟩
  · rw [List.map_flatten, List.map_map]
    congr 1
    refine List.ext_getElem? fun i => ?_
    by_cases hi : i < bs.length
    · obtain ⟨lb, hb⟩ := h i _ (List.getElem?_eq_getElem hi)
      rw [List.getElem?_eq_getElem hi, List.getElem?_map, List.getElem?_range (by omega)]
      simp only [Option.map_some, Function.comp_apply, List.map_map]
      congr 1
      refine List.ext_getElem? fun j => ?_
      by_cases hj : j < bs[i].length
      · have := hb j _ (List.getElem?_eq_getElem hj)
        rw [List.getElem?_eq_getElem hj, this, List.getElem?_map, List.getElem?_range (by omega)]
        rfl
      · rw [List.getElem?_eq_none (by omega), List.getElem?_eq_none (by simp; omega)]
    · rw [List.getElem?_eq_none (by omega), List.getElem?_eq_none (by simp; omega)]
  · rw [Bool.eq_iff_iff, List.all_eq_true, List.all_eq_true]
    constructor
    · intro hh i hi
      rw [List.all_eq_true]
      intro j hj
      exact hh _ (List.mem_flatten.mpr ⟨_, List.mem_map.mpr ⟨i, hi, rfl⟩, List.mem_map.mpr ⟨j, hj, rfl⟩⟩)
    · intro hh b hb
      obtain ⟨l, hl', hb⟩ := List.mem_flatten.mp hb
      obtain ⟨i, hi, rfl⟩ := List.mem_map.mp hl'
      obtain ⟨j, hj, rfl⟩ := List.mem_map.mp hb
      have := hh i hi
      rw [List.all_eq_true] at this
      exact this j hj
theorem tops_at {L : Nat} {qs : List Rat} {i : Nat} {q : Rat} (h : qs[i]? = some q) : ((topsOf L qs).map V.int)[i]? = some (.int (q.num * ((L / q.den : Nat) : Int))) := by
  unfold topsOf
  rw [List.map_map, List.getElem?_map, h]
  rfl
set_option maxHeartbeats 2000000 in
theorem ok_p_are_prices (T : Txt K mg) : FnOk P w K mg base CX0 4 T.f_p_are_prices T.d_p_are_prices ["thing", "costs"] (spAreP K T.c_Share) := by
  refine T.F_p_are_prices.ok sc_p_are_prices (fun vs H Q E h => ?_) (fun cdv A outer s H vs Q E hr h => ?_)
  · obtain ⟨v, u, css, k, rfl, _⟩ := h
    rfl
  · obtain ⟨v, u, css, k, rfl, hu, cb, h⟩ := h
    refine ⟨_, (pss_cons (ps_if (PW.pt (pw_or (pt_not (pt_val (pe_callB call_isi (by rfl) T.z_isinstance (by decide +kernel) (pa_cons (pv 0) (pa_cons (pe_bltn (v := .ty "tuple") (by rfl) T.z_tuple (by decide +kernel) rfl) pa_nil))))) (pw_or1 (pt_cmpR op_ne (pe_callB call_len_seq (by rfl) T.z_len (by decide +kernel) (pa_cons (pv 0) pa_nil)) pe_int (nomark _)))))
  (pss_one (ps_ret pe_bl))
  pss_nil)
 (pss_cons (ps_asg (pv 0) (pg_tup (by rfl) (pgs_cons (pg_name (i := 2) sc_p_are_prices.nd rfl (.inl rfl)) (pgs_cons (pg_name (i := 3) sc_p_are_prices.nd rfl (.inl rfl)) pgs_nil))))
 (pss_cons (ps_if (PW.pt (pw_or (pt_not (pt_val (pe_call (ok_p_are_shares T) (hr.mono (by decide)) (by rfl) T.g_p_are_shares T.F_p_are_shares.kp T.b_p_are_shares .nil pass0 (pa_cons (pv 2) (pa_cons (pe_callB call_len_seq (by rfl) T.z_len (by decide +kernel) (pa_cons (pv 1) pa_nil)) pa_nil))))) (pw_or1 (pt_not (pt_val (pe_call (ok_p_are_shares T) (hr.mono (by decide)) (by rfl) T.g_p_are_shares T.F_p_are_shares.kp T.b_p_are_shares .nil pass0 (pa_cons (pv 3) (pa_cons (pe_callB call_len_seq (by rfl) T.z_len (by decide +kernel) (pa_cons (pe_ix ix_list (pv 1) pe_int (fun _ _ => rfl)) pa_nil)) pa_nil))))))))
  (pss_one (ps_ret pe_bl))
  pss_nil)
 (pss_cons (ps_set (i := 4) sc_p_are_prices.nd rfl (.inr rfl) (pe_call (ok_p_common_bottom T) (hr.mono (by decide)) (by rfl) T.g_p_common_bottom T.F_p_common_bottom.kp T.b_p_common_bottom .nil pass0 (pa_cons (pe_op op_cat (pe_op op_cat (pv 2) (pv 3)) (pe_call (ok_p_joined T) (hr.mono (by decide)) (by rfl) T.g_p_joined T.F_p_joined.kp T.b_p_joined .nil pass0 (pa_cons (pv 1) pa_nil))) pa_nil)))
 (pss_cons (ps_set (i := 5) sc_p_are_prices.nd rfl (.inr rfl) (pe_call (ok_p_tops_over T) (hr.mono (by decide)) (by rfl) T.g_p_tops_over T.F_p_tops_over.kp T.b_p_tops_over .nil pass0 (pa_cons (pv 4) (pa_cons (pv 2) pa_nil))))
 (pss_cons (ps_set (i := 6) sc_p_are_prices.nd rfl (.inr rfl) (pe_call (ok_p_tops_over T) (hr.mono (by decide)) (by rfl) T.g_p_tops_over T.F_p_tops_over.kp T.b_p_tops_over .nil pass0 (pa_cons (pv 4) (pa_cons (pv 3) pa_nil))))
 (pss_cons (ps_setLc (i := 7) (own := [("row", 8)]) (g := (gName 8)) (tt := tYes) (by rfl) sc_p_are_prices.nd rfl rfl (sw_true rfl rfl rfl (by decide +kernel)) (pi_list (pv 1)) (blkOk_by (own := [("row", 8)]) (N := ["thing", "costs", "here", "there", "bottom", "near", "far", "rows", "row", "at", "to", "cost"]) (sc := defScope s_p_are_prices) (by decide +kernel)) (fun _ _ _ _ _ => by exact (pg_name (i := 8) sc_p_are_prices.nd rfl (.inl rfl))) (fun _ _ _ _ _ => by exact pts_nil) (fun _ _ _ _ _ => by exact (pe_call (ok_p_tops_over T) (hr.mono (by decide)) (by rfl) T.g_p_tops_over T.F_p_tops_over.kp T.b_p_tops_over .nil pass0 (pa_cons (pv 4) (pa_cons (pv 8) pa_nil)))))
 (pss_one (ps_ret (pe_callB (cr_all rfl) (by rfl) T.z_all (by decide +kernel) (pa_cons (pe_lc2 (own := [("at", 9), ("row", 8), ("to", 10), ("cost", 11)]) (vs1 := [10, 11]) (g := (gTup K 2 (gCons (gName 9) (gCons (gName 8) gNil)))) (tt := tYes) (g1 := (gTup K 2 (gCons (gName 10) (gCons (gName 11) gNil)))) (tt1 := tYes) (by rfl) sc_p_are_prices.nd (pi_enum (by rfl) T.z_enumerate (pa_cons (pv 7) pa_nil)) (blkOk_by (own := [("at", 9), ("row", 8), ("to", 10), ("cost", 11)]) (N := ["thing", "costs", "here", "there", "bottom", "near", "far", "rows", "row", "at", "to", "cost"]) (sc := defScope s_p_are_prices) (by decide +kernel)) (by decide) (fun _ _ _ _ _ => by exact (pg_tup (by rfl) (pgs_cons (pg_name (i := 9) sc_p_are_prices.nd rfl (.inl rfl)) (pgs_cons (pg_name (i := 8) sc_p_are_prices.nd rfl (.inl rfl)) pgs_nil)))) (fun _ _ _ _ _ => by exact pts_nil) (fun _ _ _ _ _ => by exact (pi_enumK (K := K) rfl (by rfl) T.z_enumerate (pa_cons (pv 8) pa_nil))) (fun _ _ _ _ _ => by exact (pg_tup (by rfl) (pgs_cons (pg_name (i := 10) sc_p_are_prices.nd rfl (.inl rfl)) (pgs_cons (pg_name (i := 11) sc_p_are_prices.nd rfl (.inl rfl)) pgs_nil)))) (fun _ _ _ _ _ => by exact pts_nil) (fun _ _ _ _ _ => by exact (pe_cmpR op_le (pe_op op_sub (pe_ix (ix_listK (K := K) rfl) (pv 5) (pv 9) (fun _ _ => rfl)) (pe_ix (ix_listK (K := K) rfl) (pv 6) (pv 10) (fun _ _ => rfl))) (pv 11) (nomark _)))) pa_nil))))))))))), ?_⟩
    rcases h with ⟨⟨t, ty, kt⟩, q⟩ | ⟨p, xs, rfl, hp, l2, q⟩ | ⟨p, x, y, r1, r2, rfl, hp, hx, hy, rb1, rb2, q⟩
    · exact ⟨_, rfl, _, _, _, _, false, rfl, .ty _, ty, kt, false, rfl, iteT (q H (Same.refl _))⟩
    · refine ⟨_, rfl, _, _, _, _, true, rfl, .ty _, .base (.tup hp), kit_ty (by decide +kernel), true, rfl, iteF ?_⟩
      refine ⟨_, rfl, p, xs, rfl, .inr (.inl (.inl hp)), rfl, _, rfl, ?_⟩
      rw [decide_eq_false (show ¬ V.int (xs.length : Int) = V.int 2 from fun z => l2 (by have := V.int.inj z; omega))]
      exact iteT (q H (Same.refl _))
    · refine ⟨_, rfl, _, _, _, _, true, rfl, .ty _, .base (.tup hp), kit_ty (by decide +kernel), true, rfl, iteF ?_⟩
      refine ⟨_, rfl, p, _, rfl, .inr (.inl (.inl hp)), rfl, _, rfl, iteF ?_⟩
      refine ⟨_, rfl, p, _, rfl, .inl (.inl hp), rfl, _, _, rfl, _, _, rfl, rfl, ?_⟩
      obtain ⟨pc, cvs, rfl, hpc, ac⟩ := id hu
      refine ⟨_, rfl, _, rfl, pc, cvs, rfl, .inl (SqL.of hpc), x, cvs.length, r1, rfl, hx, fun its e => (rb1 its e).1, fun H1 s1 => ⟨_, rfl, ?_⟩⟩
      rw [ac.1]
      have lc0 : 0 < cvs.length := by rw [ac.1]; exact cb.l0
      obtain ⟨qs0, hqs0, pr0, rvs0, er0, hr0, ar0⟩ := ac.at (List.getElem?_eq_getElem lc0)
      have lr0 : rvs0.length = (rowAt css 0).length := by rw [rowAt_of hqs0, ar0.1]
      cases o1 : onRow shOk css.length r1 with
      | false =>
        refine iteT ?_
        have := q H1 s1
        unfold prB at this
        rw [o1, Bool.false_and] at this
        exact this
      | true =>
        refine iteF ?_
        refine ⟨_, rfl, _, rfl, pc, cvs, _, _, rfl, rfl, SqL.of (s1 _ _ hpc), atI_nat (j := 0) (List.getElem?_eq_getElem lc0), ?_⟩
        rw [er0]
        refine ⟨pr0, rvs0, rfl, .inl (SqL.of (s1 _ _ hr0)), y, rvs0.length, r2, rfl, hy.mono s1, fun its e => (rb2 its e).1, fun H2 s2 => ⟨_, rfl, ?_⟩⟩
        rw [lr0]
        have s12 := s1.trans s2
        cases o2 : onRow shOk (rowAt css 0).length r2 with
        | false =>
          refine iteT ?_
          have := q H2 s12
          unfold prB at this
          rw [o1, o2, Bool.false_and, Bool.and_false] at this
          exact this
        | true =>
          refine iteF ?_
          obtain ⟨⟨p1, vs1, rfl, e1, a1⟩, l1⟩ := sh_shares (hx.mono s12) o1
          obtain ⟨⟨p2, vs2, rfl, e2, a2⟩, l2⟩ := sh_shares (hy.mono s12) o2
          have k12 : (rowAt css 0).length ≤ 12 := by
            rw [rowAt_of hqs0, (cb.row _ (List.mem_of_getElem? hqs0)).1]
            exact cb.k1
          have b1 := sh_bd (n := 60) o1 fun its e => (rb1 its e).2
          have b2 := sh_bd (n := 60) o2 fun its e => (rb2 its e).2
          have fin := q
          unfold prB at fin
          rw [o1, o2, Bool.true_and, Bool.true_and] at fin
          generalize ratsOf r1 = hs at *
          generalize ratsOf r2 = ts at *
          have c1 := cb.l1
          have hl := lcm_prices (hs := hs) (ts := ts) (by omega) (by omega) b1 b2 cb
          have hL0 := lcmOn_pos (hs ++ ts ++ css.flatten) 1 (by decide)
          -- all in one list
          refine ⟨_, rfl, _, rfl, p1, p2, vs1, vs2, rfl, rfl, e1, e2, Nat.le_of_lt (small1000 (by rw [a1.1, a2.1]; omega)), fun p3 n3 => ?_⟩
          have s3 := same_upd (o := .lst (vs1 ++ vs2)) n3
          refine ⟨_, rfl, _, css, rfl, tbl_mono hu (s12.trans s3), cb.l1, fun qs h => by rw [(cb.row qs h).1]; exact cb.k1, fun H4 p4 s4 h4 => ?_⟩
          obtain ⟨_, vs4, e4', e4, a4⟩ := h4
          cases e4'
          have s24 := s3.trans s4
          have fl : css.flatten.length ≤ css.length * 12 := by
            have : ∀ l : List (List Rat), (∀ qs ∈ l, qs.length ≤ 12) → l.flatten.length ≤ l.length * 12 := fun l => by
              induction l with
              | nil => intro _; simp
              | cons b r ih =>
                intro h
                have h1 := h b List.mem_cons_self
                have h2 := ih fun q hq => h q (List.mem_cons_of_mem _ hq)
                rw [List.flatten_cons, List.length_append, List.length_cons]
                omega
            exact this css fun qs h => by have := (cb.row qs h).1; have := cb.k1; omega
          refine ⟨p3, p4, _, _, rfl, rfl, s4 _ _ upd_same, e4, Nat.le_of_lt (small1000 (by rw [List.length_append, a1.1, a2.1, a4.1]; omega)), fun p5 n5 => ?_⟩
          have s5 := same_upd (o := .lst ((vs1 ++ vs2) ++ vs4)) n5
          have s25 := s24.trans s5
          refine ⟨_, hs ++ ts ++ css.flatten, rfl, ⟨p5, _, rfl, upd_same, ((a1.imp fun _ _ h => h.mono s25).append (a2.imp fun _ _ h => h.mono s25)).append (a4.imp fun _ _ h => h.mono s5)⟩, hl, ?_⟩
          generalize upd H4 p5 (.lst ((vs1 ++ vs2) ++ vs4)) = H5 at *
          generalize hLL : lcmOn 1 (hs ++ ts ++ css.flatten) = L at *
          have dv : ∀ q ∈ hs ++ ts ++ css.flatten, q.den ∣ L := fun q hq => by rw [← hLL]; exact den_dvd_lcm _ 1 q hq
          have L9 : L < 2 ^ 9000 := Nat.lt_of_lt_of_le hl (Nat.pow_le_pow_right (by decide) (by decide))
          -- near, far
          have h1s : IsShares T.c_Share H5 (.ref p1) hs := ⟨p1, vs1, rfl, s25 _ _ e1, a1.imp fun _ _ h => h.mono s25⟩
          have h2s : IsShares T.c_Share H5 (.ref p2) ts := ⟨p2, vs2, rfl, s25 _ _ e2, a2.imp fun _ _ h => h.mono s25⟩
          refine ⟨_, rfl, _, rfl, _, L, hs, 60, rfl, h1s, b1, by omega, by decide, by decide, L9, fun H6 pn _ s6 en => ?_⟩
          refine ⟨_, rfl, _, rfl, _, L, ts, 60, rfl, h2s.mono s6, b2, by omega, by decide, by decide, L9, fun H7 pf _ s7 ef => ?_⟩
          have en := s7 _ _ en
          have sA := s12.trans (s25.trans (s6.trans s7))
          -- rows
          have hpc7 := sA _ _ hpc
          refine ⟨_, rfl, pc, rfl, ⟨_, SqL.of hpc7⟩, fun D nD => lc_all (K := K) (a := pc) (xs := cvs) (fun i y G => ∃ r, y = .ref r ∧ G r = some (.lst ((topsOf L (rowAt css i)).map V.int))) (fun _ _ _ _ s h => h.elim fun r f => ⟨r, f.1, s _ _ f.2⟩) nD (SqL.of hpc7) (by rw [ac.1]; omega) (fun i x H8 kk hi s8 eD hk => ?_) (fun H8 ys s8 e8 l8 r8 => ?_)⟩
          · obtain ⟨qs, hqs, hrow⟩ := ac.at hi
            have cr := cb.row qs (List.mem_of_getElem? hqs)
            refine ⟨rfl, _, rfl, _, rfl, _, L, qs, 40, rfl, hrow.mono (sA.trans (s8.trans hid_same)), cr.2, by have := cb.k1; omega, by decide, by decide, L9, fun H9 r9 n9 s9 e9 => hk _ _ s9 ⟨r9, rfl, ?_⟩⟩
            rw [rowAt_of hqs]
            have nr : r9 ≠ D := fun z => by
              obtain ⟨ys', e'⟩ := eD
              rw [z, e'] at n9
              cases n9
            rw [hid_ne nr]
            exact e9
          · have s78 : Same H7 H8 := s8.trans hid_same
            have en8 := s78 _ _ en
            have ef8 := s78 _ _ ef
            have lys : ys.length = css.length := by rw [l8, ac.1]
            have rk : ∀ i, i < css.length → (rowAt css i).length = k := fun i hi => by
              rw [rowAt_of (List.getElem?_eq_getElem hi)]
              exact (cb.row _ (List.getElem_mem hi)).1
            have lts : ts.length = k := by rw [l2, rk 0 cb.l0]
            have k12' := cb.k1
            refine ⟨_, rfl, D, ys, rfl, SqL.of e8, fun D2 nD2 => lc2_all (walk_enum (K := K) (a := D) (xs := ys)) (fun i => (rowAt css i).length) (fun i j y _ => y = .bl (decide (at0 hs i - at0 ts j ≤ at0 (rowAt css i) j))) (fun _ _ _ _ _ _ h => h) 12 (fun i hi => ?_) (by omega) nD2 (fun H' s => s.seq (SqL.of e8)) (fun i x H9 H10 kk hi s9 eD9 y hk => ?_) (fun H9 bs s9 e9 l9 r9 => ?_)⟩
            · rw [rk i (by omega)]
              exact k12'
            · obtain ⟨T1, x1, x2, rfl, nT, rfl, hx1, hx2⟩ := y
              cases hx1
              have hx2 : ys[i]? = some x2 := hx2
              obtain ⟨r, rfl, er⟩ := r8 i x2 hx2
              have er9 := s9 _ _ (hid_same _ _ er)
              have en9 := s9 _ _ en8
              have ef9 := s9 _ _ ef8
              have sT := same_upd (o := .tup [.int (i : Nat), .ref r]) nT
              have ic : i < css.length := by omega
              have lrow : ((topsOf L (rowAt css i)).map V.int).length = (rowAt css i).length := by simp [topsOf]
              refine ⟨T1, _, rfl, .inl (.inl upd_same), rfl, _, _, rfl, _, _, rfl, rfl, wipe2 (by decide) (by decide), _, rfl, r, _, rfl, SqL.of (sT _ _ (hid_same _ _ er9)), hk _ _ _ ⟨sT, fun H => SqL K H r ((topsOf L (rowAt css i)).map V.int), _, by rw [← lrow]; exact walk_enum, fun H5 s5 _ => SqL.of (hid_same _ _ (s5 _ _ (hid_mono sT _ _ er9))), fun j x1 H11 H12 k' hj s11 eD11 y1 hk1 => ?_⟩⟩
              obtain ⟨T2, z1, z2, rfl, nT2, rfl, hz1, hz2⟩ := y1
              cases hz1
              have hz2 : ((topsOf L (rowAt css i)).map V.int)[j]? = some z2 := hz2
              have sT2 := same_upd (o := .tup [.int (j : Nat), z2]) nT2
              have sX : Same (hid D2 H9) (upd H11 T2 (.tup [.int (j : Nat), z2])) := (hid_mono sT).trans (s11.trans (hid_same.trans sT2))
              have i1 : i < hs.length := by omega
              have j1 : j < ts.length := by rw [lts, ← rk i ic]; exact hj
              have gx := List.getElem?_eq_getElem i1
              have gy := List.getElem?_eq_getElem j1
              have gc := List.getElem?_eq_getElem hj
              rw [tops_at gc] at hz2
              cases hz2
              refine ⟨T2, _, rfl, .inl (.inl upd_same), rfl, _, _, rfl, _, _, rfl, rfl, wipe2 (by decide) (by decide), ?_⟩
              refine ⟨_, look_out (look_out (o := some (.ref pn)) rfl (by decide) (by decide) (by decide)) (by decide) (by decide) (by decide), _, look_out (look_1 (show 9 < 12 by decide) (by decide)) (by decide) (by decide) (by decide), pn, _, _, _, rfl, rfl, SqL.of (sX _ _ en9), atI_nat (tops_at gx), _, look_out (look_out (o := some (.ref pf)) rfl (by decide) (by decide) (by decide)) (by decide) (by decide) (by decide), _, look_1 (by rw [look_len (n := 12) rfl]; decide) (by decide), pf, _, _, _, rfl, rfl, SqL.of (sX _ _ ef9), atI_nat (tops_at gy), _, _, rfl, rfl, _, look_2 (by rw [look_len (n := 12) rfl]; decide), _, _, rfl, rfl, hk1 _ _ sT2 (congrArg V.bl (decide_eq_decide.mpr ?_))⟩
              rw [at0_of gx, at0_of gy, at0_of gc]
              refine tops_le hL0 (dv _ ?_) (dv _ ?_) (dv _ ?_)
              · exact List.mem_append_left _ (List.mem_append_left _ (List.getElem_mem i1))
              · exact List.mem_append_left _ (List.mem_append_right _ (List.getElem_mem j1))
              · refine List.mem_append_right _ (List.mem_flatten.mpr ⟨rowAt css i, ?_, List.getElem_mem hj⟩)
                rw [rowAt_of (List.getElem?_eq_getElem ic)]
                exact List.getElem_mem ic
            · obtain ⟨ls, e', ea⟩ := all_blocks (f := fun i j => decide (at0 hs i - at0 ts j ≤ at0 (rowAt css i) j)) (m := fun i => (rowAt css i).length) ys.length bs l9 fun i b hb => ⟨(r9 i b hb).1, fun j y hy => (r9 i b hb).2 j y hy⟩
              refine ⟨D2, ls, rfl, SqL.of (by rw [← e']; exact e9), ?_⟩
              have := fin H9 (sA.trans (s78.trans (s9.trans hid_same)))
              unfold fits at this
              rw [ea, lys]
              exact this
end

end Fb

namespace Fb
open PySem PySem.Spec PyProof.Rows L2
section
variable {P : Program} {w : World} {K : PySem.W.Frag} {mg : Str → Option Value} {base : Heap}
theorem RcB.imp {X : Cx} {n : Nat} {op : CmpOp} {g : Bool → Bool} {D D' : EqvB} (h : RcB X n op g D) (i : ∀ x y b H, D' x y b H → D x y b H) : RcB X n op g D' := fun A pins s σ H x y u v b sb I rx ry d => h A pins s σ H x y u v b sb I rx ry (i _ _ _ _ d)
def DSh (C : Addr) : EqvB := fun x y b H => ∃ q r, IsShare C H x q ∧ IsShare C H y r ∧ b = decide (q = r)
theorem isShare_inj {C : Addr} {H : Hp} {v : V} {q r : Rat} (h : IsShare C H v q) (h' : IsShare C H v r) : q = r := by
  obtain ⟨p, dx, rfl, h⟩ := h
  obtain ⟨p', dx', e, h'⟩ := h'
  cases e
  rw [h] at h'
  have := HO.ins.inj (Option.some.inj h')
  have e2 := this.2.2
  have t := flds_top q
  rw [e2, flds_top r] at t
  have b := flds_bottom q
  rw [e2, flds_bottom r] at b
  have t := V.int.inj (Option.some.inj t)
  have b := V.int.inj (Option.some.inj b)
  exact Rat.ext t.symm (by omega)
theorem dsh_refl (C : Addr) : Refl (DSh C) := fun x b H d => by
  obtain ⟨q, r, h, h', rfl⟩ := d
  exact decide_eq_true (isShare_inj h h')
theorem dsh_ref (C : Addr) : ∀ x y b H, DSh C x y b H → ∃ a c, x = .ref a ∧ y = .ref c := fun x y b H d => by
  obtain ⟨q, r, ⟨p, _, e, _⟩, ⟨p', _, e', _⟩, _⟩ := d
  exact ⟨p, p', e, e'⟩
theorem dsh_ins (C : Addr) : ∀ x y b H, DSh C x y b H → DInsB C (spEq K C) x y b H := fun x y b H d => by
  obtain ⟨q, r, h, h', rfl⟩ := d
  obtain ⟨p, dx, rfl, e⟩ := id h
  obtain ⟨p', dx', rfl, e'⟩ := id h'
  exact ⟨p, p', _, _, _, _, rfl, rfl, e, e', _, _, q, rfl, h, .inl ⟨r, h', rfl, rfl⟩⟩
theorem dlist_of {C : Addr} {H : Hp} {v u : V} {qs rs : List Rat} (h : IsShares C H v qs) (h' : IsShares C H u rs) (l : qs.length = rs.length) : DListB (DSh C) v u (decide (qs = rs)) H := by
  obtain ⟨p, vs, rfl, e, a⟩ := h
  obtain ⟨p', vs', rfl, e', a'⟩ := h'
  refine ⟨p, p', vs, vs', rfl, rfl, e, e', by rw [a.1, a'.1, l], fun i => decide (at0 qs i = at0 rs i), fun i x y hx hy => ?_, ?_⟩
  · obtain ⟨z, hz, r⟩ := a.at hx
    obtain ⟨z', hz', r'⟩ := a'.at hy
    exact ⟨z, z', r, r', by show decide (at0 qs i = at0 rs i) = _; rw [at0_of hz, at0_of hz']⟩
  · rw [a.1, Bool.eq_iff_iff, decide_eq_true_iff, List.all_eq_true]
    constructor
    · rintro rfl i _
      simp
    · intro hh
      refine List.ext_getElem l fun i h1 h2 => ?_
      have := of_decide_eq_true (hh i (by simpa using h1))
      rw [at0_of (List.getElem?_eq_getElem h1), at0_of (List.getElem?_eq_getElem h2)] at this
      exact this
end

end Fb

namespace Fb
open PySem PySem.Spec PyProof.Rows L2
section
variable {P : Program} {w : World} {K : PySem.W.Frag} {mg : Str → Option Value} {base : Heap}
def IsIt (H : Hp) (v : V) : Option Rat → Prop
  | some q => IsPr H v q
  | none => odd v
theorem IsIt.mono {H H' : Hp} {v : V} {o : Option Rat} (s : Same H H') (h : IsIt H v o) : IsIt H' v o := by
  cases o with
  | none => exact h
  | some q => exact IsPr.mono h s
abbrev IsPRow (H : Hp) (v : V) (its : List (Option Rat)) : Prop := IsL IsIt H v its
theorem IsPRow.mono {H H' : Hp} {v : V} {its : List (Option Rat)} (s : Same H H') (h : IsPRow H v its) : IsPRow H' v its := IsL.mono (R := IsIt) (fun _ _ _ _ s h => IsIt.mono s h) s h
theorem odd_ty {H : Hp} {v : V} (h : odd v) : ∃ t, TyX K H v (.type t) ∧ kitB t "tuple" = some false := by
  rcases h with rfl | rfl | rfl | rfl
  · exact ⟨"int", .base (.int 0), by decide +kernel⟩
  · exact ⟨"NoneType", .base .non, by decide +kernel⟩
  · exact ⟨"str", .base (.str _), by decide +kernel⟩
  · exact ⟨"bool", .base (.bl true), by decide +kernel⟩
theorem IsMd.hidL {C : Addr} {H : Hp} {D : Addr} {v : V} {o : Option Rat} (e : ∃ ys, H D = some (.lst ys)) (h : IsMd C H v o) : IsMd C (Fb.hid D H) v o := by
  cases o with
  | none => exact h
  | some q => exact IsShare.hidL e h
structure RwAt (H : Hp) (a : Addr) (f : Nat) (pr : Addr) (its : List (Option Rat)) (H' : Hp) : Prop where
  new : H pr = none
  ne : pr ≠ a
  at_ : ∃ vs, H' pr = some (.lst vs) ∧ AllAre (IsIt H') vs its
  same : Same (hid a H) (hid a H')
  well : WellAt H' a f
theorem IsIt.ts {H H' : Hp} {v : V} {o : Option Rat} (s : TS H H') (h : IsIt H v o) : IsIt H' v o := by
  cases o with
  | none => exact h
  | some q => exact IsPr.ts h s
theorem RwAt.keep {H : Hp} {a : Addr} {f f' : Nat} {pr : Addr} {its : List (Option Rat)} {H1 H2 : Hp} (R : RwAt H a f pr its H1) (s : Same (hid a H1) (hid a H2)) (w : WellAt H2 a f') : RwAt H a f' pr its H2 := by
  obtain ⟨vs, e, r⟩ := R.at_
  have t := TS.well R.well s
  refine ⟨R.new, R.ne, ⟨vs, ?_, r.imp fun _ _ h => h.ts t⟩, R.same.trans s, w⟩
  have := s pr _ (by rw [hid_ne R.ne]; exact e)
  rwa [hid_ne R.ne] at this
theorem AllAre.set {α : Type} {R : V → α → Prop} {vs : List V} {xs : List α} {j : Nat} {v : V} {x : α} (h : AllAre R vs xs) (r : R v x) : AllAre R (vs.set j v) (xs.set j x) := by
  refine ⟨by simp [h.1], fun i a b h1 h2 => ?_⟩
  rw [List.getElem?_set] at h1 h2
  by_cases e : j = i
  · subst e
    rw [if_pos rfl] at h1 h2
    split at h1
    · split at h2
      · cases h1
        cases h2
        exact r
      · cases h2
    · cases h1
  · rw [if_neg e] at h1 h2
    exact h.2 i a b h1 h2
theorem RwAt.set {H : Hp} {a : Addr} {f : Nat} {pr : Addr} {its : List (Option Rat)} {H1 : Hp} (R : RwAt H a f pr its H1) {vs : List V} {j : Nat} {v : V} {o : Option Rat} (e : H1 pr = some (.lst vs)) (hv : IsIt H1 v o) : RwAt H a f pr (its.set j o) (upd H1 pr (.lst (vs.set j v))) := by
  obtain ⟨vs', e', r⟩ := R.at_
  rw [e] at e'
  cases e'
  have t : TS H1 (upd H1 pr (.lst (vs.set j v))) := TS.lst e
  refine ⟨R.new, R.ne, ⟨_, upd_same, (AllAre.set r hv).imp fun _ _ h => h.ts t⟩, fun b u eb => ?_, R.well.upd R.ne⟩
  have hb : b ≠ pr := fun z => by
    rw [z, hid_ne R.ne, R.new] at eb
    cases eb
  rw [hid_updN R.ne, upd_ne hb]
  exact R.same b u eb
def ItB (n l : Nat) (its : List (Option Rat)) : Prop := its.length ≤ l ∧ ∀ q, some q ∈ its → Bd n q
theorem ItB.set {n n' l : Nat} {its : List (Option Rat)} {j : Nat} {o : Option Rat} (h : ItB n l its) (hn : n ≤ n') (ho : ∀ q, o = some q → Bd n' q) : ItB n' l (its.set j o) := by
  refine ⟨by rw [List.length_set]; exact h.1, fun q hq => ?_⟩
  rcases List.mem_or_eq_of_mem_set hq with e | e
  · exact (h.2 q e).mono hn
  · exact ho q e.symm
theorem ItB.mono {n n' l l' : Nat} {its : List (Option Rat)} (h : ItB n l its) (hn : n ≤ n') (hl : l ≤ l') : ItB n' l' its := ⟨Nat.le_trans h.1 hl, fun q hq => (h.2 q hq).mono hn⟩
theorem ixn {l : List V} {j : Nat} (hj : j < l.length) : ixN l.length (j : Int) = some j := by
  unfold ixN
  rw [if_pos (by omega), if_pos (by omega), Int.toNat_natCast]
theorem RwAt.get {H : Hp} {a : Addr} {f : Nat} {pr : Addr} {its : List (Option Rat)} {H1 : Hp} (R : RwAt H a f pr its H1) {j : Nat} (hj : j < its.length) : ∃ vs v o, H1 pr = some (.lst vs) ∧ vs.length = its.length ∧ vs[j]? = some v ∧ its[j]? = some o ∧ IsIt H1 v o := by
  obtain ⟨vs, e, r⟩ := R.at_
  have hj' : j < vs.length := by rw [r.1]; exact hj
  obtain ⟨o, ho, h⟩ := r.at (List.getElem?_eq_getElem hj')
  exact ⟨vs, _, o, e, r.1, List.getElem?_eq_getElem hj', ho, h⟩
theorem RwAt.app {H : Hp} {a : Addr} {f : Nat} {pr : Addr} {its : List (Option Rat)} {H1 : Hp} (R : RwAt H a f pr its H1) {vs : List V} {v : V} {o : Option Rat} (e : H1 pr = some (.lst vs)) (hv : IsIt H1 v o) : RwAt H a f pr (its ++ [o]) (upd H1 pr (.lst (vs ++ [v]))) := by
  obtain ⟨vs', e', r⟩ := R.at_
  rw [e] at e'
  cases e'
  have t : TS H1 (upd H1 pr (.lst (vs ++ [v]))) := TS.lst e
  refine ⟨R.new, R.ne, ⟨_, upd_same, (r.snoc hv).imp fun _ _ h => h.ts t⟩, fun b u eb => ?_, R.well.upd R.ne⟩
  have hb : b ≠ pr := fun z => by
    rw [z, hid_ne R.ne, R.new] at eb
    cases eb
  rw [hid_updN R.ne, upd_ne hb]
  exact R.same b u eb
end

end Fb

namespace Fb
open PySem PySem.Spec PyProof.Rows L2
section
variable {P : Program} {w : World} {K : PySem.W.Frag} {mg : Str → Option Value} {base : Heap}
/-! ### pairs subtracted -/
theorem ok_l_less (T : Txt K mg) : FnOk P w K mg base CX0 3 T.f_l_less T.d_l_less ["_law_one_here", "_law_other"] (spTwo (· - ·)) := by
  refine T.F_l_less.ok sc_l_less (fun vs H Q E h => ?_) (fun cdv A outer s H vs Q E hr h => ?_)
  · obtain ⟨v, u, a, b, c, d, rfl, _⟩ := h
    rfl
  · obtain ⟨v, u, a, b, c, d, rfl, ⟨p, rfl, hp⟩, ⟨p', rfl, hp'⟩, la, lb, lc, ld, hb, hd, q⟩ := h
    refine ⟨_, (pss_one (ps_ret (pe_call (ok_l_added T) (hr.mono (by decide)) (by rfl) T.g_l_added T.F_l_added.kp T.b_l_added .nil pass0 (pa_cons (pv 0) (pa_cons (pe_tup (pa_cons (pe_op op_sub pe_int (pe_ix ix_tup (pv 1) pe_int (fun _ _ => rfl))) (pa_cons (pe_ix ix_tup (pv 1) pe_int (fun _ _ => rfl)) pa_nil))) pa_nil))))), ?_⟩
    refine ⟨_, rfl, _, rfl, p', _, _, _, rfl, rfl, .inl (.inl hp'), atI_nat (j := 0) rfl, _, _, rfl, rfl, _, rfl, p', _, _, _, rfl, rfl, .inl (.inl hp'), atI_nat (j := 1) rfl, by show 2 ≤ sizeLine; decide, fun t nt => ?_⟩
    have st := same_upd (o := .tup [.int (0 - c), .int d]) nt
    refine ⟨_, _, a, b, 0 - c, d, rfl, ⟨p, rfl, st _ _ hp⟩, ⟨t, rfl, upd_same⟩, la, lb, by rw [Int.zero_sub, Int.natAbs_neg]; exact lc, ld, hb, hd, fun H1 r s1 h1 => q H1 r (st.trans s1) ?_⟩
    have e : Rat.divInt a b + Rat.divInt (0 - c) d = Rat.divInt a b - Rat.divInt c d := by
      rw [Int.zero_sub, ← Rat.neg_divInt, ← Rat.sub_eq_add_neg]
    show IsPr H1 r (Rat.divInt a b - Rat.divInt c d)
    rw [← e]
    exact h1
/-! ### the law's costs -/
structure CostN (css : List (List Rat)) (k b : Nat) : Prop where
  b0 : 0 < b
  b1 : b ≤ 12
  row : ∀ qs ∈ css, qs.length = k ∧ ∀ q ∈ qs, Nice b 1000000000 q
def spCosts : Sp := fun vs H Q _ => ∃ (a : Addr) (m k n : Nat), vs = [.ref a, .int m, .int k] ∧ WellAt H a (n + 160) ∧ m ≤ 12 ∧ k ≤ 12 ∧
  ∀ H' p css b, H p = none → Same (hid a H) (hid a H') → WellAt H' a n → IsTbl IsPrs (hid a H') (.ref p) css → css.length = m → CostN css k b → Q (.ref p) H'
theorem IsPrs.hid2 {H : Hp} {a D p : Addr} {qs : List Rat} (hn : p ≠ D) (e : ∃ ys, H D = some (.lst ys)) (h : IsPrs H (.ref p) qs) : IsPrs (Fb.hid D H) (.ref p) qs := h.hidN hn e
theorem ok_l_costs (T : Txt K mg) : FnOk P w K mg base CX0 3 T.f_l_costs T.d_l_costs ["_law_well_here", "_law_here", "_law_there"] spCosts := by
  refine T.F_l_costs.ok sc_l_costs (fun vs H Q E h => ?_) (fun cdv A outer s H vs Q E hr h => ?_)
  · obtain ⟨a, m, k, n, rfl, _⟩ := h
    rfl
  · obtain ⟨a, m, k, n, rfl, hw, m12, k12, q⟩ := h
    refine ⟨_, (pss_cons (ps_set (i := 3) sc_l_costs.nd rfl (.inr rfl) (pe_call (ok_l_one T) (hr.mono (by decide)) (by rfl) T.g_l_one T.F_l_one.kp T.b_l_one .nil pass0 (pa_cons (pv 0) (pa_cons (pe_lst (pa_cons pe_int (pa_cons pe_int (pa_cons pe_int (pa_cons (pe_op op_pow pe_int pe_int) pa_nil))))) pa_nil))))
 (pss_cons (ps_set (i := 4) sc_l_costs.nd rfl (.inr rfl) (pe_op op_add pe_int (pe_call (ok_l_draw T) (hr.mono (by decide)) (by rfl) T.g_l_draw T.F_l_draw.kp T.b_l_draw .nil pass0 (pa_cons (pv 0) (pa_cons (pe_call (ok_l_one T) (hr.mono (by decide)) (by rfl) T.g_l_one T.F_l_one.kp T.b_l_one .nil pass0 (pa_cons (pv 0) (pa_cons (pe_lst (pa_cons pe_int (pa_cons pe_int (pa_cons pe_int pa_nil)))) pa_nil))) pa_nil)))))
 (pss_one (ps_ret (pe_lc (own := [("_law_x", 5)]) (g := (gName 5)) (tt := tYes) (by rfl) sc_l_costs.nd (pi_range1 (by rfl) T.z_range (pa_cons (pv 1) pa_nil)) (blkOk_by (own := [("_law_x", 5)]) (N := ["_law_well_here", "_law_here", "_law_there", "_law_most", "_law_bottom", "_law_x", "_law_y"]) (sc := defScope s_l_costs) (by decide +kernel)) (fun _ _ _ _ _ => by exact (pg_name (i := 5) sc_l_costs.nd rfl (.inl rfl))) (fun _ _ _ _ _ => by exact pts_nil) (fun _ _ _ _ _ => by exact (by exact (pe_lc (own := [("_law_y", 6)]) (g := (gName 6)) (tt := tYes) (by rfl) sc_l_costs.nd (pi_range1 (by rfl) T.z_range (pa_cons (pv 2) pa_nil)) (by exact blkOk_by (own := [("_law_y", 6)]) (by kernel_rfl)) (fun _ _ _ _ _ => by exact (pg_name (i := 6) sc_l_costs.nd rfl (.inl rfl))) (fun _ _ _ _ _ => by exact pts_nil) (fun _ _ _ _ _ => by exact (pe_call (ok_l_low T) (hr.mono (by decide)) (by rfl) T.g_l_low T.F_l_low.kp T.b_l_low .nil pass0 (pa_cons (pe_call (ok_l_draw T) (hr.mono (by decide)) (by rfl) T.g_l_draw T.F_l_draw.kp T.b_l_draw .nil pass0 (pa_cons (pv 0) (pa_cons (pv 3) pa_nil))) (pa_cons (pv 4) pa_nil)))))))))))), ?_⟩
    refine ⟨_, rfl, _, _, rfl, rfl, ⟨by decide, by decide, by decide⟩, by show 4 ≤ sizeLine; decide, fun p1 n1 => ?_⟩
    obtain ⟨w1, s1⟩ := well_new (o := .lst [.int 2, .int 4, .int 20, .int (10 ^ (9 : Int).toNat)]) hw n1
    refine ⟨a, p1, _, n + 159, rfl, w1, sqL_hid hw n1, by decide, by decide, fun i x H2 hx s2 w2 => ?_⟩
    obtain ⟨mo, rfl, mo0, mo1⟩ : ∃ mo : Int, x = .int mo ∧ 0 < mo ∧ mo ≤ 1000000000 := by
      rcases mem4 hx with e | e | e | e <;> exact ⟨_, e, by decide, by decide⟩
    refine ⟨_, rfl, _, rfl, by show 3 ≤ sizeLine; decide, fun p3 n3 => ?_⟩
    obtain ⟨w3, s3⟩ := well_new (o := .lst [.int 1, .int 2, .int 12]) w2 n3
    refine ⟨a, p3, _, n + 158, rfl, w3, sqL_hid w2 n3, by decide, by decide, fun j y H4 hy s4 w4 => ?_⟩
    obtain ⟨g, rfl, g0, g1⟩ : ∃ g : Int, y = .int g ∧ 0 < g ∧ g ≤ 12 := by
      rcases mem3 hy with e | e | e <;> exact ⟨_, e, by decide, by decide⟩
    have gl : g.natAbs.log2 < 9000 := by
      have e : g = ((g.toNat : Nat) : Int) := by omega
      rw [e]
      exact log_small (by omega)
    refine ⟨a, g, n + 157, rfl, w4, g0, gl, fun d H5 d0 d1 s5 w5 => ⟨_, _, rfl, rfl, ?_⟩⟩
    have ml : mo.natAbs.log2 < 9000 := log_of (n := 30) (by decide) (by omega) (by decide)
    obtain ⟨bo, hbo, bo0, bo1⟩ : ∃ b : Nat, 1 + d = (b : Int) ∧ 0 < b ∧ b ≤ 12 := ⟨(1 + d).toNat, by omega, by omega, by omega⟩
    dsimp only
    rw [hbo]
    have s05 := s1.trans (s2.trans (s3.trans (s4.trans s5)))
    have nb : ∀ p, H5 p = none → H p = none := fun p hp => none_back s05 w5 hp
    refine ⟨_, rfl, m, rfl, by omega, by omega, fun D nD => lc_wellR (a := a) (fun y G => ∃ qs : List Rat, IsPrs G y qs ∧ qs.length = k ∧ ∀ q ∈ qs, Nice bo 1000000000 q) (fun _ _ _ s h => h.elim fun qs h => ⟨qs, h.1.mono s, h.2⟩) 12 n nD (w5.mono (by rw [Int.toNat_natCast]; omega)) (by rw [Int.toNat_natCast]; omega) (fun i6 H6 n6 k6 hi6 w6 s6 eD hk => ?_) (fun H6 ys s6 w6 e6 l6 r6 => ?_)⟩
    · refine ⟨rfl, _, rfl, k, rfl, by omega, by omega, fun D7 nD7 => lc_wellR (a := a) (fun y G => ∃ q : Rat, IsPr G y q ∧ Nice bo 1000000000 q) (fun _ _ _ s h => h.elim fun q h => ⟨q, h.1.mono s, h.2⟩) 1 n6 nD7 (w6.mono (by rw [Int.toNat_natCast]; omega)) (by rw [Int.toNat_natCast]; omega) (fun i8 H8 n8 k8 hi8 w8 s8 eD8 hk8 => ?_) (fun H8 ys8 s8 w8 e8 l8 r8 => ?_)⟩
      · refine ⟨rfl, _, rfl, _, rfl, a, mo, n8, rfl, w8, mo0, ml, fun d9 H9 d90 d91 s9 w9 => ⟨_, rfl, d9, (bo : Int), rfl, by omega, log_small (by omega), fun H10 r10 s10 h10 => ?_⟩⟩
        have s910 := hid_mono (a := a) s10
        refine hk8 _ _ (s9.trans s910) (w9.same s10) ⟨Rat.divInt d9 (bo : Int), ?_, Nice.of bo0 (Nat.dvd_refl _) ?_⟩
        · refine IsTup2.hidL ?_ (IsTup2.hid (w9.same s10) h10)
          obtain ⟨ys', e'⟩ := eD8
          have nDa : D7 ≠ a := w6.ne nD7
          refine ⟨ys', ?_⟩
          exact (s9.trans s910) _ _ (by rw [hid_ne nDa]; exact e')
        · have : d9.natAbs ≤ 1000000000 := by omega
          exact Nat.le_trans this (Nat.le_mul_of_pos_right _ bo0)
      · obtain ⟨qs, hqs⟩ := allAre_of (R := fun y q => IsPr (hid D7 (hid a H8)) y q ∧ Nice bo 1000000000 q) r8
        have nDa : D7 ≠ a := w6.ne nD7
        have nDD : D7 ≠ D := fun z => by
          obtain ⟨ys', e'⟩ := eD
          rw [z, e'] at nD7
          cases nD7
        have s68 : Same (hid a H6) (hid a H8) := s8.trans hid_same
        refine hk _ _ s68 w8 ⟨qs, ⟨D7, ys8, rfl, by rw [hid_ne nDD, hid_ne nDa]; exact e8, hqs.imp fun _ _ h => ?_⟩, by rw [← hqs.1, l8, Int.toNat_natCast], fun q hq => ?_⟩
        · refine IsTup2.hidL ?_ (IsTup2.mono h.1 hid_same)
          obtain ⟨ys', e'⟩ := eD
          have nDa' : D ≠ a := w5.ne nD
          exact ⟨ys', s68 _ _ (by rw [hid_ne nDa']; exact e')⟩
        · obtain ⟨y, hy⟩ := hqs.mem hq
          exact hy.2
    · obtain ⟨css, hcss⟩ := allAre_of (R := fun y qs => IsPrs (hid D (hid a H6)) y qs ∧ qs.length = k ∧ ∀ q ∈ qs, Nice bo 1000000000 q) r6
      have nDa : D ≠ a := w5.ne nD
      refine q H6 D css bo (nb D nD) (s05.trans (s6.trans hid_same)) w6 ⟨D, ys, rfl, by rw [hid_ne nDa]; exact e6, hcss.imp fun _ _ h => h.1.mono hid_same⟩ (by rw [← hcss.1, l6, Int.toNat_natCast]) ⟨bo0, bo1, fun qs hq => ?_⟩
      obtain ⟨y, hy⟩ := hcss.mem hq
      exact hy.2
/-! ### what a plan costs, by pairs -/
structure PlanN (pss : List (List Rat)) (S : Nat) : Prop where
  s0 : 0 < S
  s1 : S ≤ 1000000
  row : ∀ qs ∈ pss, qs.length ≤ 12 ∧ ∀ q ∈ qs, Nice S 1 q
def spCostL : Sp := fun vs H Q _ => ∃ (v u : V) (css pss : List (List Rat)) (k b S : Nat), vs = [v, u] ∧ IsTbl IsPrs H v css ∧ IsTbl IsPrs H u pss ∧ CostN css k b ∧ PlanN pss S ∧ css.length ≤ 12 ∧ css.length = pss.length ∧ (∀ (i : Nat) c p, css[i]? = some c → pss[i]? = some p → c.length = p.length) ∧
  ∀ H' r, Same H H' → IsPr H' r (dot css.flatten pss.flatten) → Q r H'
theorem prod_nice {css pss : List (List Rat)} {k b S : Nat} (C : CostN css k b) (N : PlanN pss S) {c p : List Rat} (hc : c ∈ css) (hp : p ∈ pss) : ∀ q ∈ List.zipWith (· * ·) c p, Nice (b * S) 1000000000 q := fun q hq => by
  obtain ⟨x, hx, y, hy, rfl⟩ := mem_zip hq
  have := ((C.row c hc).2 x hx).mul ((N.row p hp).2 y hy)
  rwa [Nat.mul_one] at this
theorem bS_bd {b S : Nat} (b0 : 0 < b) (b1 : b ≤ 12) (s0 : 0 < S) (s1 : S ≤ 1000000) {M : Nat} (hM : M ≤ 144000000000) {q : Rat} (h : Nice (b * S) M q) : Bd 62 q := by
  have hb : b * S ≤ 12 * 1000000 := Nat.mul_le_mul b1 s1
  have hm : M * (b * S) ≤ 144000000000 * (12 * 1000000) := Nat.mul_le_mul hM hb
  exact h.bd (Nat.mul_pos b0 s0) (by omega) (by omega)
theorem dot_nice {css pss : List (List Rat)} {k b S : Nat} (C : CostN css k b) (N : PlanN pss S) {c p : List Rat} (hc : c ∈ css) (hp : p ∈ pss) : Nice (b * S) 12000000000 (dot c p) := by
  have := Nice.rsum (Nat.mul_pos C.b0 N.s0) (prod_nice C N hc hp)
  refine this.mono (Nat.dvd_refl _) ?_
  have l : (List.zipWith (· * ·) c p).length ≤ 12 := by
    rw [List.length_zipWith]
    have := (N.row p hp).1
    omega
  exact Nat.mul_le_mul_left 1000000000 l
theorem ok_l_cost (T : Txt K mg) : FnOk P w K mg base CX0 4 T.f_l_cost T.d_l_cost ["_law_costs_here", "_law_plan"] spCostL := by
  refine T.F_l_cost.ok sc_l_cost (fun vs H Q E h => ?_) (fun cdv A outer s H vs Q E hr h => ?_)
  · obtain ⟨v, u, css, pss, k, b, S, rfl, _⟩ := h
    rfl
  · obtain ⟨v, u, css, pss, k, b, S, rfl, ⟨p1, vs1, rfl, e1, a1⟩, ⟨p2, vs2, rfl, e2, a2⟩, C, N, c12, lcp, lrow, q⟩ := h
    refine ⟨_, (pss_cons (ps_set (i := 2) sc_l_cost.nd rfl (.inl rfl) (pe_tup (pa_cons pe_int (pa_cons pe_int pa_nil))))
 (pss_cons (ps_for PassesOwn.never rfl (pi_zip (by rfl) T.z_zip (pa_cons (pv 0) (pa_cons (pv 1) pa_nil))) (pg_tup (by rfl) (pgs_cons (pg_name (i := 3) sc_l_cost.nd rfl (.inl rfl)) (pgs_cons (pg_name (i := 4) sc_l_cost.nd rfl (.inl rfl)) pgs_nil)))
  (pss_one (ps_set (i := 2) sc_l_cost.nd rfl (.inl rfl) (pe_call (ok_l_added T) (hr.mono (by decide)) (by rfl) T.g_l_added T.F_l_added.kp T.b_l_added .nil pass0 (pa_cons (pv 2) (pa_cons (pe_call (ok_l_total T) (hr.mono (by decide)) (by rfl) T.g_l_total T.F_l_total.kp T.b_l_total .nil pass0 (pa_cons (pe_lc (own := [("_law_cost_here", 5), ("_law_amount", 6)]) (g := (gTup K 2 (gCons (gName 5) (gCons (gName 6) gNil)))) (tt := tYes) (by rfl) sc_l_cost.nd (pi_zip (by rfl) T.z_zip (pa_cons (pv 3) (pa_cons (pv 4) pa_nil))) (blkOk_by (own := [("_law_cost_here", 5), ("_law_amount", 6)]) (N := ["_law_costs_here", "_law_plan", "_law_found", "_law_row", "_law_amounts", "_law_cost_here", "_law_amount"]) (sc := defScope s_l_cost) (by decide +kernel)) (fun _ _ _ _ _ => by exact (pg_tup (by rfl) (pgs_cons (pg_name (i := 5) sc_l_cost.nd rfl (.inl rfl)) (pgs_cons (pg_name (i := 6) sc_l_cost.nd rfl (.inl rfl)) pgs_nil)))) (fun _ _ _ _ _ => by exact pts_nil) (fun _ _ _ _ _ => by exact (pe_call (ok_l_by T) (hr.mono (by decide)) (by rfl) T.g_l_by T.F_l_by.kp T.b_l_by .nil pass0 (pa_cons (pv 5) (pa_cons (pv 6) pa_nil))))) pa_nil)) pa_nil))))))
 (pss_one (ps_ret (pv 2))))), ?_⟩
    refine ⟨by show 2 ≤ sizeLine; decide, fun t nt => ?_⟩
    have st := same_upd (o := .tup [.int 0, .int 1]) nt
    have zr : ∀ (i : Nat), Nice (b * S) 144000000000 (rsum ((List.zipWith dot css pss).take i)) := fun i => by
      have : ∀ z ∈ (List.zipWith dot css pss).take i, Nice (b * S) 12000000000 z := fun z hz => by
        obtain ⟨j, hj, e⟩ := List.mem_iff_getElem.mp (List.mem_of_mem_take hz)
        rw [List.getElem_zipWith] at e
        rw [← e]
        exact dot_nice C N (List.getElem_mem _) (List.getElem_mem _)
      refine (Nice.rsum (Nat.mul_pos C.b0 N.s0) this).mono (Nat.dvd_refl _) ?_
      have l : ((List.zipWith dot css pss).take i).length ≤ 12 := by
        rw [List.length_take, List.length_zipWith]
        omega
      exact Nat.mul_le_mul_left 12000000000 l
    refine ⟨_, rfl, _, rfl, p1, p2, vs1, vs2, rfl, SqL.of (st _ _ e1), SqL.of (st _ _ e2), RZ.for_zipL (K := K) (a := p1) (b := p2) (xs := vs1) (ys := vs2) (by rw [a1.1, a2.1, lcp]) (fun i σ H' => ∃ f y3 y4 y5 y6, σ = [some (.ref p1), some (.ref p2), some f, y3, y4, y5, y6] ∧ Same H H' ∧ IsPr H' f (rsum ((List.zipWith dot css pss).take i))) ⟨_, _, _, _, _, rfl, st, t, rfl, upd_same⟩ (fun i σ H' h => ?_) (fun i x y T1 σ H' hx hy h nT => ?_) (fun σ H' h => ?_)⟩
    · obtain ⟨_, _, _, _, _, _, s1, _⟩ := h
      exact ⟨s1.seq (SqL.of e1), s1.seq (SqL.of e2)⟩
    · obtain ⟨f, y3, y4, y5, y6, rfl, s1, hf⟩ := h
      have sT := same_upd (o := .tup [x, y]) nT
      obtain ⟨c, hc, pr, rvs, rfl, er, ar⟩ := a1.at hx
      obtain ⟨pp, hp, pa, avs, rfl, ea, aa⟩ := a2.at hy
      have sA := s1.trans sT
      have er' := sA _ _ er
      have ea' := sA _ _ ea
      have mc := List.mem_of_getElem? hc
      have mp := List.mem_of_getElem? hp
      refine ⟨T1, _, rfl, .inl (.inl upd_same), rfl, _, _, rfl, _, _, rfl, rfl, ?_⟩
      refine ⟨_, rfl, _, rfl, _, rfl, pr, pa, _, _, rfl, SqL.of er', SqL.of ea', fun D nD => lc_allW (walk_zip (K := K) (a := pr) (b := pa) (xs := rvs) (ys := avs) (n := (List.zipWith (· * ·) c pp).length) (by rw [List.length_zipWith, ar.1, aa.1])) (fun i y G => ∃ z, (List.zipWith (· * ·) c pp)[i]? = some z ∧ IsPr G y z) (fun _ _ _ _ s h => h.elim fun z f => ⟨z, f.1, f.2.mono s⟩) nD (fun H' s => ⟨s.seq (SqL.of er'), s.seq (SqL.of ea')⟩) (by rw [List.length_zipWith]; have := (N.row _ mp).1; omega) (fun j x H3 H4 kk hj s3 eD y hk => ?_) (fun H3 ys s3 e3 l3 r3 => ?_)⟩
      · obtain ⟨T2, x1, x2, rfl, nT2, rfl, hx1, hx2⟩ := y
        have hx1 : rvs[j]? = some x1 := hx1
        have hx2 : avs[j]? = some x2 := hx2
        obtain ⟨z1, hz1, g1⟩ := ar.at hx1
        obtain ⟨z2, hz2, g2⟩ := aa.at hx2
        have sT2 := same_upd (o := .tup [x1, x2]) nT2
        have sB := sA.trans (s3.trans (hid_same.trans sT2))
        have b1 : Bd 4000 z1 := (((C.row c mc).2 z1 (List.mem_of_getElem? hz1)).bd C.b0 (n := 40) (by have := C.b1; omega) (by have := C.b1; omega)).mono (by decide)
        have b2 : Bd 4000 z2 := (((N.row pp mp).2 z2 (List.mem_of_getElem? hz2)).bd N.s0 (n := 40) (by have := N.s1; omega) (by have := N.s1; omega)).mono (by decide)
        refine ⟨T2, _, rfl, .inl (.inl upd_same), rfl, _, _, rfl, _, _, rfl, rfl, wipe2 (by decide) (by decide), ?_⟩
        refine ⟨_, rfl, _, rfl, spTwo.mk (E := E0) (g1.mono sB) (g2.mono sB) b1 b2 fun H5 r5 s5 h5 => hk _ _ (sT2.trans s5) ⟨z1 * z2, ?_, IsPr.hidL ?_ h5⟩⟩
        · rw [List.getElem?_zipWith, hz1, hz2]
        · obtain ⟨ys', e'⟩ := eD
          exact ⟨ys', s5 _ _ (sT2 _ _ e')⟩
      · have s13 : Same H' H3 := sT.trans (s3.trans hid_same)
        have pn := prod_nice C N mc mp
        refine ⟨_, List.zipWith (· * ·) c pp, 62, rfl, ⟨D, ys, rfl, e3, .of_ix l3 fun j y hy => ?_⟩, fun q hq => bS_bd C.b0 C.b1 N.s0 N.s1 (by decide) (pn q hq), ?_, by decide, fun H5 r5 s5 h5 => ?_⟩
        · obtain ⟨z, hz, g⟩ := r3 j y hy
          exact ⟨z, hz, g.mono hid_same⟩
        · have : (List.zipWith (· * ·) c pp).length ≤ 12 := by rw [List.length_zipWith]; have := (N.row _ mp).1; omega
          omega
        · have bf : Bd 4000 (rsum ((List.zipWith dot css pss).take i)) := (bS_bd C.b0 C.b1 N.s0 N.s1 (by decide) (zr i)).mono (by decide)
          have bd : Bd 4000 (dot c pp) := (bS_bd C.b0 C.b1 N.s0 N.s1 (by decide) (dot_nice C N mc mp)).mono (by decide)
          refine spTwo.mk (E := E0) (hf.mono (s13.trans s5)) h5 bf bd fun H6 r6 s6 h6 => ?_
          refine ⟨r6, _, _, _, _, rfl, s1.trans (s13.trans (s5.trans s6)), ?_⟩
          rw [rsum_take (z := dot c pp) (by rw [List.getElem?_zipWith, hc, hp])]
          exact h6
    · obtain ⟨f, y3, y4, y5, y6, rfl, s1, hf⟩ := h
      refine ⟨_, rfl, q H' f s1 ?_⟩
      rw [List.take_of_length_le (by rw [List.length_zipWith, a1.1]; omega), ← dot_rows lcp lrow] at hf
      exact hf
end

end Fb

namespace Fb
open PySem PySem.Spec PyProof.Rows L2
section
variable {P : Program} {w : World} {K : PySem.W.Frag} {mg : Str → Option Value} {base : Heap}
/-! ### the law's prices -/
def spPrices : Sp := fun vs H Q _ => ∃ (a : Addr) (v : V) (css : List (List Rat)) (k b n : Nat), vs = [.ref a, v] ∧ WellAt H a (n + 50) ∧ IsTbl IsPrs (hid a H) v css ∧ CostN css k b ∧ 0 < css.length ∧ css.length ≤ 12 ∧ 0 < k ∧ k ≤ 12 ∧
  ∀ H' p x y hs ts, H p = none → Same (hid a H) (hid a H') → WellAt H' a n → hid a H' p = some (.tup [x, y]) → IsPrs (hid a H') x hs → IsPrs (hid a H') y ts → hs.length = css.length → ts.length = k →
    (∀ q ∈ hs, Nice (b * 300) 1000000021 q) → (∀ q ∈ ts, Nice (b * 300) 20 q) → fits hs ts css = true → Q (.ref p) H'
theorem dvd300 {d b : Nat} (h0 : 0 < d) (h : d ≤ 6) : d ∣ b * 300 := by
  have : d = 1 ∨ d = 2 ∨ d = 3 ∨ d = 4 ∨ d = 5 ∨ d = 6 := by omega
  have h3 : d ∣ 300 := by
    rcases this with e | e | e | e | e | e <;> subst e <;> decide
  exact Nat.dvd_trans h3 (Nat.dvd_mul_left _ _)
theorem n300 {b : Nat} (b0 : 0 < b) (b1 : b ≤ 12) {M : Nat} (hM : M ≤ 1000000100) {q : Rat} (h : Nice (b * 300) M q) : Bd 43 q := by
  have hm : M * (b * 300) ≤ 1000000100 * (12 * 300) := Nat.mul_le_mul hM (Nat.mul_le_mul_right _ b1)
  exact h.bd (by omega) (by omega) (by omega)
theorem ok_l_prices (T : Txt K mg) : FnOk P w K mg base CX0 4 T.f_l_prices T.d_l_prices ["_law_well_here", "_law_costs_here"] spPrices := by
  refine T.F_l_prices.ok sc_l_prices (fun vs H Q E h => ?_) (fun cdv A outer s H vs Q E hr h => ?_)
  · obtain ⟨a, v, css, k, b, n, rfl, _⟩ := h
    rfl
  · obtain ⟨a, v, css, k, b, n, rfl, hw, ⟨pc, cvs, rfl, hpc, ac⟩, C, c0, c12, k0, k12, q⟩ := h
    refine ⟨_, (pss_cons (ps_setLc (i := 2) (own := [("_law_cost_here", 6)]) (g := (gName 6)) (tt := tYes) (by rfl) sc_l_prices.nd rfl rfl (sw_true rfl rfl rfl (by decide +kernel)) (pi_list (pe_ix ix_list (pv 1) pe_int (fun _ _ => rfl))) (blkOk_by (own := [("_law_cost_here", 6)]) (N := ["_law_well_here", "_law_costs_here", "_law_there", "_law_here", "_law_row", "_law_lowest_one", "_law_cost_here", "_law_price", "_law_most"]) (sc := defScope s_l_prices) (by decide +kernel)) (fun _ _ _ _ _ => by exact (pg_name (i := 6) sc_l_prices.nd rfl (.inl rfl))) (fun _ _ _ _ _ => by exact pts_nil) (fun _ _ _ _ _ => by exact (pe_call (ok_l_low T) (hr.mono (by decide)) (by rfl) T.g_l_low T.F_l_low.kp T.b_l_low .nil pass0 (pa_cons (pe_op op_sub (pe_call (ok_l_draw T) (hr.mono (by decide)) (by rfl) T.g_l_draw T.F_l_draw.kp T.b_l_draw .nil pass0 (pa_cons (pv 0) (pa_cons pe_int pa_nil))) pe_int) (pa_cons (pe_op op_add pe_int (pe_call (ok_l_draw T) (hr.mono (by decide)) (by rfl) T.g_l_draw T.F_l_draw.kp T.b_l_draw .nil pass0 (pa_cons (pv 0) (pa_cons pe_int pa_nil)))) pa_nil)))))
 (pss_cons (ps_set (i := 3) sc_l_prices.nd rfl (.inl rfl) (pe_lst pa_nil))
 (pss_cons (ps_for PassesOwn.never rfl (pi_list (pv 1)) (pg_name (i := 4) sc_l_prices.nd rfl (.inl rfl))
  (pss_cons (ps_set (i := 5) sc_l_prices.nd rfl (.inl rfl) pe_non)
 (pss_cons (ps_for PassesOwn.never rfl (pi_zip (by rfl) T.z_zip (pa_cons (pv 4) (pa_cons (pv 2) pa_nil))) (pg_tup (by rfl) (pgs_cons (pg_name (i := 6) sc_l_prices.nd rfl (.inl rfl)) (pgs_cons (pg_name (i := 7) sc_l_prices.nd rfl (.inl rfl)) pgs_nil)))
  (pss_cons (ps_set (i := 8) sc_l_prices.nd rfl (.inl rfl) (pe_call (ok_l_added T) (hr.mono (by decide)) (by rfl) T.g_l_added T.F_l_added.kp T.b_l_added .nil pass0 (pa_cons (pv 6) (pa_cons (pv 7) pa_nil))))
 (pss_one (ps_if (PW.pt (pw_or (pt_cmpR op_isN (pv 5) pe_non (nomark _)) (pw_or1 (pt_val (pe_call (ok_l_below T) (hr.mono (by decide)) (by rfl) T.g_l_below T.F_l_below.kp T.b_l_below .nil pass0 (pa_cons (pv 8) (pa_cons (pv 5) pa_nil)))))))
  (pss_one (ps_set (i := 5) sc_l_prices.nd rfl (.inl rfl) (pv 8)))
  pss_nil))))
 (pss_one (ps_expr (pe_bm PySem.F.plainAttrs_list PySem.F.slot_list_append PySem.F.type_list_append mt_append (pv 3) (pa_cons (pe_call (ok_l_less T) (hr.mono (by decide)) (by rfl) T.g_l_less T.F_l_less.kp T.b_l_less .nil pass0 (pa_cons (pv 5) (pa_cons (pe_tup (pa_cons (pe_call (ok_l_one T) (hr.mono (by decide)) (by rfl) T.g_l_one T.F_l_one.kp T.b_l_one .nil pass0 (pa_cons (pv 0) (pa_cons (pe_lst (pa_cons pe_int (pa_cons pe_int (pa_cons pe_int (pa_cons pe_int pa_nil))))) pa_nil))) (pa_cons pe_int pa_nil))) pa_nil))) pa_nil)))))))
 (pss_one (ps_ret (pe_tup (pa_cons (pv 3) (pa_cons (pv 2) pa_nil)))))))), ?_⟩
    have b0 := C.b0
    have S0 : 0 < b * 300 := by omega
    have lc0 : 0 < cvs.length := by rw [ac.1]; exact c0
    obtain ⟨qs0, hqs0, pr0, rvs0, er0, hr0, ar0⟩ := ac.at (List.getElem?_eq_getElem lc0)
    have lr0 : rvs0.length = k := by rw [ar0.1, (C.row _ (List.mem_of_getElem? hqs0)).1]
    refine ⟨_, rfl, pc, cvs, _, _, rfl, rfl, SqL.of (hid_same _ _ hpc), atI_nat (j := 0) (List.getElem?_eq_getElem lc0), ?_⟩
    rw [er0]
    refine ⟨pr0, rfl, ⟨_, SqL.of (hid_same _ _ hr0)⟩, fun D nD => lc_wellW (a := a) (walk_list (K := K) (a := pr0) (xs := rvs0)) (fun y G => ∃ q : Rat, IsPr G y q ∧ Nice (b * 300) 20 q) (fun _ _ _ s h => h.elim fun q h => ⟨q, h.1.mono s, h.2⟩) 2 (n + 20) nD (hw.mono (by omega)) (by omega) (fun H' s => (s.trans hid_same).seq (SqL.of hr0)) (fun i x H2 H3 m kk hi w2 s2 eD y hk => ?_) (fun H2 ys s2 w2 e2 l2 r2 => ?_)⟩
    · obtain ⟨rfl, hx⟩ := y
      refine ⟨rfl, _, rfl, a, 40, m + 1, rfl, w2, by decide, log_small (m := 40) (by decide), fun d H4 d0 d1 s4 w4 => ⟨_, _, rfl, rfl, ?_⟩⟩
      refine ⟨_, rfl, a, 6, m, rfl, w4, by decide, log_small (m := 6) (by decide), fun g H5 g0 g1 s5 w5 => ⟨_, _, rfl, rfl, ?_⟩⟩
      obtain ⟨bo, hbo, bo0, bo1⟩ : ∃ b : Nat, 1 + g = (b : Int) ∧ 0 < b ∧ b ≤ 6 := ⟨(1 + g).toNat, by omega, by omega, by omega⟩
      refine ⟨d - 20, (bo : Int), by show [V.int (d - 20), V.int (1 + g)] = _; rw [hbo], by omega, log_small (by omega), fun H6 r6 s6 h6 => ?_⟩
      have s26 := s4.trans (s5.trans (hid_mono s6))
      refine hk _ _ s26 (w5.same s6) ⟨Rat.divInt (d - 20) (bo : Int), IsTup2.hidL ?_ (IsTup2.hid (w5.same s6) h6), Nice.of bo0 (dvd300 bo0 bo1) ?_⟩
      · obtain ⟨ys', e'⟩ := eD
        have nDa : D ≠ a := hw.ne nD
        exact ⟨ys', s26 _ _ (by rw [hid_ne nDa]; exact e')⟩
      · have h1 : (d - 20).natAbs ≤ 20 := by omega
        exact Nat.le_trans h1 (Nat.le_mul_of_pos_right _ bo0)
    · obtain ⟨ts, hts⟩ := allAre_of (R := fun y q => IsPr (hid D (hid a H2)) y q ∧ Nice (b * 300) 20 q) r2
      have nDa : D ≠ a := hw.ne nD
      have lts : ts.length = k := by rw [← hts.1, l2, lr0]
      have nts : ∀ q ∈ ts, Nice (b * 300) 20 q := fun q hq => by
        obtain ⟨y, hy⟩ := hts.mem hq
        exact hy.2
      have s02 : Same (hid a H) (hid a H2) := s2.trans hid_same
      have eD2 : hid a H2 D = some (.lst ys) := by rw [hid_ne nDa]; exact e2
      have ats : AllAre (IsPr (hid a H2)) ys ts := hts.imp fun _ _ h => h.1.mono hid_same
      refine ⟨Nat.zero_le _, fun ph nh => ?_⟩
      have sh := same_upd (o := .lst []) nh
      have nha : ph ≠ a := w2.ne nh
      have R0 : RwAt H2 a (n + 20) ph [] (upd H2 ph (.lst [])) := ⟨nh, nha, ⟨[], upd_same, .nil⟩, hid_mono sh, w2.same sh⟩
      have sqc : ∀ {H'}, Same (hid a H2) (hid a H') → SqL K H' pc cvs := fun s => ((s02.trans s).trans hid_same).seq (SqL.of hpc)
      have sqt : ∀ {H'}, Same (hid a H2) (hid a H') → SqL K H' D ys := fun s => (s.trans hid_same).seq (SqL.of eD2)
      refine ⟨_, rfl, pc, rfl, ⟨_, sqc R0.same⟩, for_list (K := K) (a := pc) (xs := cvs) (fun i σ H' => ∃ hs y4 y5 y6 y7 y8, σ = [some (.ref a), some (.ref pc), some (.ref D), some (.ref ph), y4, y5, y6, y7, y8] ∧ RwAt H2 a (n + 20 - i) ph (hs.map some) H' ∧ hs.length = i ∧ (∀ q ∈ hs, Nice (b * 300) 1000000021 q) ∧ ∀ i' j, i' < i → j < k → at0 hs i' - at0 ts j ≤ at0 (rowAt css i') j) ⟨[], _, _, _, _, _, rfl, R0, rfl, fun q h => by simp at h, fun i' j h => absurd h (Nat.not_lt_zero _)⟩ (fun i σ H' _ h => ?_) (fun i x σ H' hx h => ?_) (fun σ H' h => ?_)⟩
      · obtain ⟨_, _, _, _, _, _, _, R, _⟩ := h
        exact sqc R.same
      · obtain ⟨hs, y4, y5, y6, y7, y8, rfl, R, lhs, nhs, fit⟩ := h
        have hi : i < 12 := by
          have := (List.getElem?_eq_some_iff.mp hx).1
          rw [ac.1] at this
          omega
        obtain ⟨c, hc, pr, rvs, rfl, er, ar⟩ := ac.at hx
        have mc := List.mem_of_getElem? hc
        have lc : c.length = k := (C.row c mc).1
        have lrv : rvs.length = k := by rw [ar.1, lc]
        have lys : ys.length = k := by rw [l2, lr0]
        have sqr : ∀ {H'}, Same (hid a H2) (hid a H') → SqL K H' pr rvs := fun s => ((s02.trans s).trans hid_same).seq (SqL.of er)
        refine ⟨_, rfl, _, rfl, pr, D, rvs, ys, rfl, sqr R.same, sqt R.same, RZ.for_zipL (K := K) (a := pr) (b := D) (xs := rvs) (ys := ys) (by omega) (fun j σ H'' => ∃ lo y6 y7 y8, σ = [some (.ref a), some (.ref pc), some (.ref D), some (.ref ph), some (.ref pr), some lo, y6, y7, y8] ∧ RwAt H2 a (n + 20 - i) ph (hs.map some) H'' ∧ (j = 0 → lo = .non) ∧ (0 < j → ∃ z, IsPr H'' lo z ∧ (∃ j', j' < j ∧ z = at0 c j' + at0 ts j') ∧ ∀ j', j' < j → z ≤ at0 c j' + at0 ts j')) ⟨_, _, _, _, rfl, R, fun _ => rfl, fun h => absurd h (Nat.lt_irrefl _)⟩ (fun j σ H'' h => ?_) (fun j x y T1 σ H'' hx hy h nT => ?_) (fun σ H'' h => ?_)⟩
        · obtain ⟨_, _, _, _, _, R', _⟩ := h
          exact ⟨sqr R'.same, sqt R'.same⟩
        · obtain ⟨lo, y6, y7, y8, rfl, R1, hz, hm⟩ := h
          have sT := same_upd (o := .tup [x, y]) nT
          have R2 := R1.keep (hid_mono sT) (R1.well.same sT)
          obtain ⟨zc, hzc, gc⟩ := ar.at hx
          obtain ⟨zt, hzt, gt⟩ := ats.at hy
          have gc := gc.mono ((s02.trans R2.same).trans hid_same)
          have gt := gt.mono (R2.same.trans hid_same)
          have nc : Nice (b * 300) 1000000000 zc := ((C.row c mc).2 zc (List.mem_of_getElem? hzc)).mono (Nat.dvd_mul_right _ _) (Nat.le_refl _)
          have nt := nts zt (List.mem_of_getElem? hzt)
          have nct := nc.add S0 nt
          have bct : Bd 4000 (zc + zt) := (n300 b0 C.b1 (by decide) nct).mono (by decide)
          have TS2 : TS H'' (upd H'' T1 (.tup [x, y])) := TS.same sT
          refine ⟨T1, _, rfl, .inl (.inl upd_same), rfl, _, _, rfl, _, _, rfl, rfl, ?_⟩
          refine ⟨_, rfl, _, rfl, spTwo.mk (E := E0) gc gt ((n300 b0 C.b1 (by decide) nc).mono (by decide)) ((n300 b0 C.b1 (by decide) nt).mono (by decide)) fun H4 r4 s4 h4 => ?_⟩
          have R4 := R2.keep (hid_mono s4) (R2.well.same s4)
          have ec : at0 c j = zc := at0_of hzc
          have et : at0 ts j = zt := at0_of hzt
          have first : j = 0 → ∃ lo y6 y7 y8, [some (V.ref a), some (.ref pc), some (.ref D), some (.ref ph), some (.ref pr), some r4, some x, some y, some r4] = [some (V.ref a), some (.ref pc), some (.ref D), some (.ref ph), some (.ref pr), some lo, y6, y7, y8] ∧ RwAt H2 a (n + 20 - i) ph (hs.map some) H4 ∧ (j + 1 = 0 → lo = .non) ∧ (0 < j + 1 → ∃ z, IsPr H4 lo z ∧ (∃ j', j' < j + 1 ∧ z = at0 c j' + at0 ts j') ∧ ∀ j', j' < j + 1 → z ≤ at0 c j' + at0 ts j') := fun j0 => by
            refine ⟨_, _, _, _, rfl, R4, fun h => absurd h (Nat.succ_ne_zero _), fun _ => ⟨_, h4, ⟨j, by omega, by rw [ec, et]⟩, fun j' hj' => ?_⟩⟩
            have : j' = j := by omega
            rw [this, ec, et]
            exact Rat.le_refl
          refine ⟨_, rfl, rfl, _, rfl, ?_⟩
          by_cases j0 : j = 0
          · rw [hz j0]
            exact iteT ⟨_, rfl, first j0⟩
          · obtain ⟨z, gz, ⟨j1, hj1, ez⟩, le⟩ := hm (by omega)
            have nn : lo ≠ .non := fun e => by
              obtain ⟨pz, e2, _⟩ := gz
              rw [e] at e2
              cases e2
            rw [decide_eq_false nn]
            refine iteF ?_
            have gz := (gz.mono sT).mono s4
            have j1k : j1 < k := by
              have := (List.getElem?_eq_some_iff.mp hx).1
              omega
            have bz : Bd 4000 z := by
              rw [ez]
              have g1 := (C.row c mc).2 (at0 c j1) (at0_mem (by omega))
              have g2 := nts (at0 ts j1) (at0_mem (by omega))
              exact (n300 b0 C.b1 (by decide) ((g1.mono (Nat.dvd_mul_right _ _) (Nat.le_refl _)).add S0 g2)).mono (by decide)
            refine ⟨_, rfl, _, rfl, _, _, _, _, rfl, h4, gz, bct, bz, _, rfl, ite2 (fun hb => ?_) (fun hb => ?_)⟩
            · have hlt : zc + zt < z := of_decide_eq_true hb
              refine ⟨_, rfl, ?_⟩
              refine ⟨_, _, _, _, rfl, R4, fun h => absurd h (Nat.succ_ne_zero _), fun _ => ⟨_, h4, ⟨j, by omega, by rw [ec, et]⟩, fun j' hj' => ?_⟩⟩
              by_cases e : j' = j
              · rw [e, ec, et]
                exact Rat.le_refl
              · exact Rat.le_trans (Rat.le_of_lt hlt) (le j' (by omega))
            · have hge : z ≤ zc + zt := Rat.not_lt.mp fun h => hb (decide_eq_true h)
              refine ⟨_, _, _, _, rfl, R4, fun h => absurd h (Nat.succ_ne_zero _), fun _ => ⟨_, gz, ⟨j1, by omega, ez⟩, fun j' hj' => ?_⟩⟩
              by_cases e : j' = j
              · rw [e, ec, et]
                exact hge
              · exact le j' (by omega)
        · obtain ⟨lo, y6, y7, y8, rfl, R1, _, hm⟩ := h
          obtain ⟨z, gz, ⟨j1, hj1, ez⟩, le⟩ := hm (by omega)
          have nz : Nice (b * 300) 1000000020 z := by
            rw [ez]
            have g1 := (C.row c mc).2 (at0 c j1) (at0_mem (by omega))
            have g2 := nts (at0 ts j1) (at0_mem (by omega))
            exact (g1.mono (Nat.dvd_mul_right _ _) (Nat.le_refl _)).add S0 g2
          obtain ⟨hvs, ehv, _⟩ := R1.at_
          refine ⟨_, rfl, .inl ⟨rfl, _, SqL.of ehv⟩, _, rfl, _, rfl, by show 4 ≤ sizeLine; decide, fun p4 n4 => ?_⟩
          have s4 := same_upd (o := .lst [.int 0, .int 0, .int 0, .int 1]) n4
          have R4 := R1.keep (hid_mono s4) (R1.well.same s4)
          refine ⟨a, p4, _, n + 20 - i - 1, rfl, R4.well.mono (by omega), sqL_hid R1.well n4, by decide, by decide, fun i5 x5 H5 hx5 s5 w5 => ?_⟩
          obtain ⟨g, rfl, g0, g1⟩ : ∃ g : Int, x5 = .int g ∧ 0 ≤ g ∧ g ≤ 1 := by
            rcases mem4 hx5 with e | e | e | e <;> exact ⟨_, e, by decide, by decide⟩
          have R5 := R4.keep s5 w5
          refine ⟨by show 2 ≤ sizeLine; decide, fun t nt => ?_⟩
          have st := same_upd (o := .tup [.int g, .int 3]) nt
          have gz := (gz.mono s4).ts ((TS.well R4.well s5).trans (TS.same st))
          have R6 := R5.keep (hid_mono st) (R5.well.same st)
          have bz : Bd 4000 z := (n300 b0 C.b1 (by decide) nz).mono (by decide)
          refine ⟨_, _, _, _, g, 3, rfl, gz, ⟨t, rfl, upd_same⟩, bz.num, den_abs bz, Nat.lt_of_le_of_lt (show g.natAbs ≤ 1 by omega) (Nat.one_lt_two_pow (by decide)), Nat.lt_of_lt_of_le (show (3 : Int).natAbs < 2 ^ 2 by decide) (Nat.pow_le_pow_right (by decide) (by decide)), den_ne _, by decide, fun H7 r7 s7 h7 => ?_⟩
          have h7 : IsPr H7 r7 (z - Rat.divInt g 3) := by
            have := h7
            dsimp only at this
            rw [divInt_self] at this
            exact this
          have R7 := R6.keep (hid_mono s7) (R6.well.same s7)
          obtain ⟨hvs', ehv', ahv'⟩ := R7.at_
          have l7 : hvs'.length = i := by rw [ahv'.1, List.length_map, lhs]
          refine ⟨ph, hvs', _, rfl, rfl, ehv', small1000 (by omega), ?_⟩
          have R8 := R7.app (o := some (z - Rat.divInt g 3)) ehv' h7
          have ng : Nice (b * 300) 1 (Rat.divInt g ((3 : Nat) : Int)) := Nice.of (by decide) (dvd300 (by decide) (by decide)) (by omega)
          have g3 : 0 ≤ Rat.divInt g 3 := (Rat.divInt_nonneg_iff_of_pos_right (by decide)).mpr g0
          refine ⟨hs ++ [z - Rat.divInt g 3], _, _, _, _, _, rfl, ?_, by simp [lhs], fun q hq => ?_, fun i' j hi' hj => ?_⟩
          · rw [List.map_append]
            exact R8.keep (Same.refl _) (R8.well.mono (by omega))
          · rcases List.mem_append.mp hq with h | h
            · exact nhs q h
            · have : q = z - Rat.divInt g 3 := by simpa using h
              rw [this]
              exact nz.sub S0 ng
          · by_cases e : i' = i
            · have eh : at0 (hs ++ [z - Rat.divInt g 3]) i' = z - Rat.divInt g 3 := at0_of (by rw [e, List.getElem?_append_right (by omega), lhs, Nat.sub_self]; rfl)
              rw [eh, e, rowAt_of hc]
              have := le j (by omega)
              grind
            · have eh : at0 (hs ++ [z - Rat.divInt g 3]) i' = at0 hs i' := by
                unfold at0
                rw [List.getD_eq_getElem?_getD, List.getD_eq_getElem?_getD, List.getElem?_append_left (by omega)]
              rw [eh]
              exact fit i' j (by omega) hj
      · obtain ⟨hs, y4, y5, y6, y7, y8, rfl, R, lhs, nhs, fit⟩ := h
        refine ⟨_, rfl, _, rfl, by show 2 ≤ sizeLine; decide, fun p9 n9 => ?_⟩
        have s9 := same_upd (o := .tup [.ref ph, .ref D]) n9
        have R9 := R.keep (hid_mono s9) (R.well.same s9)
        have n9a : p9 ≠ a := R.well.ne n9
        have sF : Same (hid a H) (hid a (upd H' p9 (.tup [.ref ph, .ref D]))) := s02.trans R9.same
        obtain ⟨hvs, ehv, ahv⟩ := R9.at_
        rw [ac.1] at lhs fit
        refine q _ p9 _ _ hs ts ?_ sF (R9.well.mono (by rw [ac.1]; omega)) (by rw [hid_updN n9a]; exact upd_same) ⟨ph, hvs, rfl, by rw [hid_ne R9.ne]; exact ehv, ⟨by rw [ahv.1, List.length_map], fun i v q hv hq => ?_⟩⟩ ⟨D, ys, rfl, R9.same _ _ eD2, ats.imp fun _ _ h => h.mono R9.same⟩ lhs lts nhs nts ?_
        · cases e : H p9 with
          | none => rfl
          | some o =>
            have := (s02.trans R.same) p9 o (by rw [hid_ne n9a]; exact e)
            rw [hid_ne n9a, n9] at this
            cases this
        · exact IsTup2.hid R9.well (ahv.2 i v (some q) hv (by rw [List.getElem?_map, hq]; rfl))
        · unfold fits
          rw [List.all_eq_true]
          intro i hi
          rw [List.all_eq_true]
          intro j hj
          have hi : i < css.length := by simpa using hi
          have hj : j < (rowAt css i).length := by simpa using hj
          rw [rowAt_of (List.getElem?_eq_getElem hi), (C.row _ (List.getElem_mem hi)).1] at hj
          exact decide_eq_true (fit i j hi hj)
end

end Fb

namespace Fb
open PySem PySem.Spec PyProof.Rows L2
section
variable {P : Program} {w : World} {K : PySem.W.Frag} {mg : Str → Option Value} {base : Heap}
/-! ### shares in the place of pairs -/
structure TwoRows (H : Hp) (p : Addr) (i1 i2 : List (Option Rat)) : Prop where
  rows : ∃ x y, H p = some (.tup [x, y]) ∧ IsPRow H x i1 ∧ IsPRow H y i2
theorem TwoRows.mono {H H' : Hp} {p : Addr} {i1 i2 : List (Option Rat)} (h : TwoRows H p i1 i2) (s : Same H H') : TwoRows H' p i1 i2 := by
  obtain ⟨x, y, e, h1, h2⟩ := h.rows
  exact ⟨x, y, s _ _ e, h1.mono s, h2.mono s⟩
def NiB (S M l : Nat) (its : List (Option Rat)) : Prop := its.length ≤ l ∧ ∀ q, some q ∈ its → Nice S M q
theorem NiB.mono {S M M' l l' : Nat} {its : List (Option Rat)} (h : NiB S M l its) (hM : M ≤ M') (hl : l ≤ l') : NiB S M' l' its := ⟨Nat.le_trans h.1 hl, fun q hq => (h.2 q hq).mono (Nat.dvd_refl _) hM⟩
theorem NiB.itb {b M l : Nat} {its : List (Option Rat)} (h : NiB (b * 300) M l its) (b0 : 0 < b) (b1 : b ≤ 12) (hM : M ≤ 1000000100) : ItB 43 l its := ⟨h.1, fun q hq => n300 b0 b1 hM (h.2 q hq)⟩
def spMade (C : Addr) : Sp := fun vs H Q _ => ∃ (p : Addr) (i1 i2 : List (Option Rat)), vs = [.ref p] ∧ TwoRows H p i1 i2 ∧ ItB 9000 900 i1 ∧ ItB 9000 900 i2 ∧
  ∀ H' r x' y', Same H H' → H' r = some (.tup [x', y']) → IsL (IsMd C) H' x' i1 → IsL (IsMd C) H' y' i2 → Q (.ref r) H'
theorem ok_l_made (T : Txt K mg) : FnOk P w K mg base CX0 4 T.f_l_made T.d_l_made ["_law_prices_here"] (spMade T.c_Share) := by
  refine T.F_l_made.ok sc_l_made (fun vs H Q E h => ?_) (fun cdv A outer s H vs Q E hr h => ?_)
  · obtain ⟨p, i1, i2, rfl, _⟩ := h
    rfl
  · obtain ⟨p, i1, i2, rfl, ⟨x, y, hp, hx, hy⟩, b1, b2, q⟩ := h
    refine ⟨_, (pss_one (ps_ret (pe_callTy call_tuple_of (by rfl) T.z_tuple (by decide +kernel) (pa_cons (pe_lc (own := [("_law_some", 1)]) (g := (gName 1)) (tt := tYes) (by rfl) sc_l_made.nd (pi_tup (pv 0)) (blkOk_by (own := [("_law_some", 1)]) (N := ["_law_prices_here", "_law_some", "_law_one_here"]) (sc := defScope s_l_made) (by decide +kernel)) (fun _ _ _ _ _ => by exact (pg_name (i := 1) sc_l_made.nd rfl (.inl rfl))) (fun _ _ _ _ _ => by exact pts_nil) (fun _ _ _ _ _ => by exact (by exact (pe_lc (own := [("_law_one_here", 2)]) (g := (gName 2)) (tt := tYes) (by rfl) sc_l_made.nd (pi_listK (K := K) rfl (pv 1)) (by exact blkOk_by (own := [("_law_one_here", 2)]) (by kernel_rfl)) (fun _ _ _ _ _ => by exact (pg_name (i := 2) sc_l_made.nd rfl (.inl rfl))) (fun _ _ _ _ _ => by exact pts_nil) (fun _ _ _ _ _ => by exact (pe_ifExp (pt_val (pe_callB (call_isiK (K := K) rfl) (by rfl) T.z_isinstance (by decide +kernel) (pa_cons (pv 2) (pa_cons (pe_bltn (v := .ty "tuple") (by rfl) T.z_tuple (by decide +kernel) rfl) pa_nil)))) (pe_make T.M_Share (ok_m_Share_init T) (hr.mono (by decide)) (by rfl) T.g_Share T.b_m_Share_init .nil pass0 (pa_cons (pe_ix (ix_tupK (K := K) rfl) (pv 2) pe_int (fun _ _ => rfl)) (pa_cons (pe_ix (ix_tupK (K := K) rfl) (pv 2) pe_int (fun _ _ => rfl)) pa_nil))) (pv 2))))))) pa_nil)))), ?_⟩
    have both : ∀ (i : Nat) z, [x, y][i]? = some z → ∃ its, [i1, i2][i]? = some its ∧ IsPRow H z its ∧ ItB 9000 900 its := fun i z hz => by
      match i, hz with
      | 0, hz => cases hz; exact ⟨_, rfl, hx, b1⟩
      | 1, hz => cases hz; exact ⟨_, rfl, hy, b2⟩
      | (n + 2), hz => cases hz
    refine ⟨_, rfl, p, rfl, ⟨_, .inl (.inl hp)⟩, fun D nD => lc_allW (walk_tup (K := K) (a := p) (xs := [x, y])) (fun i z G => ∃ its, [i1, i2][i]? = some its ∧ IsL (IsMd T.c_Share) G z its) (fun _ _ _ _ s h => h.elim fun p f => ⟨p, f.1, IsL.mono (R := IsMd T.c_Share) (fun _ _ _ _ s h => IsMd.mono s h) s f.2⟩) nD (fun H' s => .inl (.inl (s _ _ hp))) (by show 2 ≤ 1000; decide) (fun i z H2 H3 k hi s2 eD yy hk => ?_) (fun H2 ys s2 e l r => ?_)⟩
    · obtain ⟨rfl, hz⟩ := yy
      obtain ⟨its, hits, hz, ib⟩ := both i z hz
      obtain ⟨pr, rvs, rfl, er, ar⟩ := IsPRow.mono (s2.trans hid_same) hz
      refine ⟨rfl, _, rfl, pr, rfl, ⟨_, SqL.of er⟩, fun D5 nD5 => lc_all (K := K) (a := pr) (xs := rvs) (fun i y G => ∃ o, its[i]? = some o ∧ IsMd T.c_Share G y o) (fun _ _ _ _ s h => h.elim fun p f => ⟨p, f.1, f.2.mono s⟩) nD5 (SqL.of er) (by rw [ar.1]; have := ib.1; omega) (fun i x H6 k6 hi s6 eD6 hk6 => ?_) (fun H6 ys6 s6 e6 l6 r6 => ?_)⟩
      · obtain ⟨o, ho, hx⟩ := ar.at hi
        have hx := IsIt.mono (s6.trans hid_same) hx
        refine ⟨rfl, ?_⟩
        cases o with
        | some z =>
          obtain ⟨pt, rfl, ht⟩ := hx
          have bz := ib.2 z (List.mem_of_getElem? ho)
          refine ⟨_, rfl, _, _, _, _, true, rfl, .ty _, .base (.tup ht), kit_ty (by decide +kernel), true, rfl, iteT ?_⟩
          refine ⟨_, rfl, pt, _, _, _, rfl, rfl, .inl (.inl ht), atI_nat (j := 0) rfl, _, rfl, pt, _, _, _, rfl, rfl, .inl (.inl ht), atI_nat (j := 1) rfl, ?_⟩
          refine mk_share (den_ne z) (log_of (by decide) (den_abs bz) (by decide)) fun H7 r7 s7 h7 => ?_
          rw [divInt_self] at h7
          refine hk6 _ _ s7 ⟨_, ho, IsMd.hidL (o := some z) ?_ h7⟩
          obtain ⟨ys', e'⟩ := eD6
          exact ⟨ys', s7 _ _ e'⟩
        | none =>
          obtain ⟨t, ty, kt⟩ := odd_ty (K := K) (H := H6) hx
          exact ⟨_, rfl, _, _, _, _, false, rfl, .ty _, ty, kit_ty kt, false, rfl, iteF ⟨_, rfl, hk6 _ _ (Same.refl _) ⟨_, ho, hx⟩⟩⟩
      · have s26 : Same H3 H6 := s6.trans hid_same
        have nD : D5 ≠ D := fun z => by
          obtain ⟨ys', e'⟩ := eD
          rw [z, e'] at nD5
          cases nD5
        have eD6 : ∃ ys, H6 D = some (.lst ys) := by
          obtain ⟨ys', e'⟩ := eD
          exact ⟨ys', s26 _ _ e'⟩
        refine hk _ _ s26 ⟨its, hits, D5, ys6, rfl, by rw [hid_ne nD]; exact e6, .of_ix (by rw [l6, ar.1]) fun i y hy => ?_⟩
        obtain ⟨o, ho, hs⟩ := r6 i y hy
        exact ⟨o, ho, (hs.mono hid_same).hidL eD6⟩
    · refine ⟨D, ys, rfl, .inl ⟨SqL.of e, fun t nt => ?_⟩⟩
      have st := same_upd (o := .tup ys) nt
      match ys, l, r, e, st with
      | [x', y'], _, r, e, st =>
        obtain ⟨_, e1, h1⟩ := r 0 x' rfl
        obtain ⟨_, e2, h2⟩ := r 1 y' rfl
        cases e1
        cases e2
        have mm : ∀ {z its}, IsL (IsMd T.c_Share) (hid D H2) z its → IsL (IsMd T.c_Share) (upd H2 t (.tup [x', y'])) z its := fun h => IsL.mono (R := IsMd T.c_Share) (fun _ _ _ _ s h => IsMd.mono s h) (hid_same.trans st) h
        exact q _ t x' y' ((s2.trans hid_same).trans st) upd_same (mm h1) (mm h2)
/-! ### whether rows of pairs are prices -/
def spDue : Sp := fun vs H Q _ => ∃ (v : V) (p : Addr) (css : List (List Rat)) (k b : Nat) (i1 i2 : List (Option Rat)), vs = [v, .ref p] ∧ IsTbl IsPrs H v css ∧ CostN css k b ∧ 0 < css.length ∧ css.length ≤ 12 ∧ k ≤ 12 ∧ TwoRows H p i1 i2 ∧ NiB (b * 300) 1000000100 100 i1 ∧ NiB (b * 300) 1000000100 100 i2 ∧
  ∀ H', Same H H' → Q (.bl (prB (some i1) (some i2) css)) H'
theorem all_some {its : List (Option Rat)} (h : ∀ o ∈ its, o.isSome = true) {i : Nat} (hi : i < its.length) : its[i]? = some (some (at0 (ratsOf (some its)) i)) := by
  have := h _ (List.getElem_mem hi)
  obtain ⟨q, hq⟩ := Option.isSome_iff_exists.mp this
  have e : at0 (ratsOf (some its)) i = q := at0_of (by simp [ratsOf, List.getElem?_eq_getElem hi, hq])
  rw [e, List.getElem?_eq_getElem hi, hq]
theorem ok_l_due (T : Txt K mg) : FnOk P w K mg base CX0 4 T.f_l_due T.d_l_due ["_law_costs_here", "_law_prices_here"] spDue := by
  refine T.F_l_due.ok sc_l_due (fun vs H Q E h => ?_) (fun cdv A outer s H vs Q E hr h => ?_)
  · obtain ⟨v, p, css, k, b, i1, i2, rfl, _⟩ := h
    rfl
  · obtain ⟨v, p, css, k, b, i1, i2, rfl, ⟨pc, cvs, rfl, hpc, ac⟩, C, c0, c12, k12, ⟨x, y, hp, ⟨px, xvs, rfl, ex, ax⟩, ⟨py, yvs, rfl, ey, ay⟩⟩, b1, b2, q⟩ := h
    refine ⟨_, (pss_cons (ps_asg (pv 1) (pg_tup (by rfl) (pgs_cons (pg_name (i := 2) sc_l_due.nd rfl (.inl rfl)) (pgs_cons (pg_name (i := 3) sc_l_due.nd rfl (.inl rfl)) pgs_nil))))
 (pss_cons (ps_if (PW.pt (pw_or (pt_cmpR op_ne (pe_callB call_len_seq (by rfl) T.z_len (by decide +kernel) (pa_cons (pv 2) pa_nil)) (pe_callB call_len_seq (by rfl) T.z_len (by decide +kernel) (pa_cons (pv 0) pa_nil)) (nomark _)) (pw_or1 (pt_cmpR op_ne (pe_callB call_len_seq (by rfl) T.z_len (by decide +kernel) (pa_cons (pv 3) pa_nil)) (pe_callB call_len_seq (by rfl) T.z_len (by decide +kernel) (pa_cons (pe_ix ix_list (pv 0) pe_int (fun _ _ => rfl)) pa_nil)) (nomark _)))))
  (pss_one (ps_ret pe_bl))
  pss_nil)
 (pss_cons (ps_if (pt_cmpR (op_neNil hr.units0) (pe_lc (own := [("_law_one_here", 6)]) (g := (gName 6)) (tt := _) (by rfl) sc_l_due.nd (pi_list (pe_op op_cat (pv 2) (pv 3))) (blkOk_by (own := [("_law_one_here", 6)]) (N := ["_law_costs_here", "_law_prices_here", "_law_here", "_law_there", "_law_row", "_law_price", "_law_one_here", "_law_cost_here", "_law_other"]) (sc := defScope s_l_due) (by decide +kernel)) (fun _ _ _ _ _ => by exact (pg_name (i := 6) sc_l_due.nd rfl (.inl rfl))) (fun _ _ _ _ _ => by exact (pts_one (pt_not (pt_val (pe_callB (call_isiK (K := K) rfl) (by rfl) T.z_isinstance (by decide +kernel) (pa_cons (pv 6) (pa_cons (pe_bltn (v := .ty "tuple") (by rfl) T.z_tuple (by decide +kernel) rfl) pa_nil))))))) (fun _ _ _ _ _ => by exact (pv 6))) (pe_lst pa_nil) (nomark _))
  (pss_one (ps_ret pe_bl))
  pss_nil)
 (pss_cons (ps_for PassesOwn.never rfl (pi_zip (by rfl) T.z_zip (pa_cons (pv 0) (pa_cons (pv 2) pa_nil))) (pg_tup (by rfl) (pgs_cons (pg_name (i := 4) sc_l_due.nd rfl (.inl rfl)) (pgs_cons (pg_name (i := 5) sc_l_due.nd rfl (.inr rfl)) pgs_nil)))
  (pss_one (ps_if (pt_cmpR (op_neNil hr.units0) (pe_lc (own := [("_law_cost_here", 7), ("_law_other", 8)]) (g := (gTup K 2 (gCons (gName 7) (gCons (gName 8) gNil)))) (tt := _) (by rfl) sc_l_due.nd (pi_zip (by rfl) T.z_zip (pa_cons (pv 4) (pa_cons (pv 3) pa_nil))) (blkOk_by (own := [("_law_cost_here", 7), ("_law_other", 8)]) (N := ["_law_costs_here", "_law_prices_here", "_law_here", "_law_there", "_law_row", "_law_price", "_law_one_here", "_law_cost_here", "_law_other"]) (sc := defScope s_l_due) (by decide +kernel)) (fun _ _ _ _ _ => by exact (pg_tup (by rfl) (pgs_cons (pg_name (i := 7) sc_l_due.nd rfl (.inl rfl)) (pgs_cons (pg_name (i := 8) sc_l_due.nd rfl (.inl rfl)) pgs_nil)))) (fun _ _ _ _ _ => by exact (pts_one (pt_val (pe_call (ok_l_below T) (hr.mono (by decide)) (by rfl) T.g_l_below T.F_l_below.kp T.b_l_below .nil pass0 (pa_cons (pv 7) (pa_cons (pe_call (ok_l_less T) (hr.mono (by decide)) (by rfl) T.g_l_less T.F_l_less.kp T.b_l_less .nil pass0 (pa_cons (pv 5) (pa_cons (pv 8) pa_nil))) pa_nil)))))) (fun _ _ _ _ _ => by exact pe_int)) (pe_lst pa_nil) (nomark _))
  (pss_one (ps_ret pe_bl))
  pss_nil)))
 (pss_one (ps_ret pe_bl)))))), ?_⟩
    have lc0 : 0 < cvs.length := by rw [ac.1]; exact c0
    obtain ⟨qs0, hqs0, pr0, rvs0, er0, hr0, ar0⟩ := ac.at (List.getElem?_eq_getElem lc0)
    have lr0 : rvs0.length = (rowAt css 0).length := by rw [rowAt_of hqs0, ar0.1]
    have fin := q
    unfold prB at fin
    refine ⟨_, rfl, p, _, rfl, .inl (.inl hp), rfl, _, _, rfl, _, _, rfl, rfl, ?_⟩
    refine ⟨_, rfl, px, xvs, rfl, .inl (SqL.of ex), _, rfl, pc, cvs, rfl, .inl (SqL.of hpc), rfl, _, rfl, ?_⟩
    rw [ax.1, ac.1]
    by_cases l1 : i1.length = css.length
    · rw [decide_eq_true (show V.int (i1.length : Int) = V.int (css.length : Int) by rw [l1])]
      refine iteF ?_
      refine ⟨_, rfl, py, yvs, rfl, .inl (SqL.of ey), _, rfl, pc, cvs, _, _, rfl, rfl, SqL.of hpc, atI_nat (j := 0) (List.getElem?_eq_getElem lc0), ?_⟩
      rw [er0]
      refine ⟨pr0, rvs0, rfl, .inl (SqL.of hr0), rfl, _, rfl, ?_⟩
      rw [ay.1, lr0]
      by_cases l2 : i2.length = (rowAt css 0).length
      · rw [decide_eq_true (show V.int (i2.length : Int) = V.int ((rowAt css 0).length : Int) by rw [l2])]
        refine iteF ?_
        have B1 := b1.1
        have B2 := b2.1
        refine ⟨_, rfl, _, rfl, px, py, xvs, yvs, rfl, rfl, ex, ey, Nat.le_of_lt (small1000 (by rw [ax.1, ay.1]; omega)), fun p3 n3 => ?_⟩
        have s3 := same_upd (o := .lst (xvs ++ yvs)) n3
        have a3 : AllAre (IsIt (upd H p3 (.lst (xvs ++ yvs)))) (xvs ++ yvs) (i1 ++ i2) := (ax.imp fun _ _ h => IsIt.mono s3 h).append (ay.imp fun _ _ h => IsIt.mono s3 h)
        have e3 : (upd H p3 (.lst (xvs ++ yvs))) p3 = some (.lst (xvs ++ yvs)) := upd_same
        generalize upd H p3 (.lst (xvs ++ yvs)) = H3 at *
        refine ⟨p3, rfl, ⟨_, SqL.of e3⟩, fun D nD => lc_some (K := K) (a := p3) (xs := xvs ++ yvs) (fun i => !((i1 ++ i2).getD i none).isSome) nD (SqL.of e3) (by rw [a3.1, List.length_append]; omega) (fun i x H4 kt kf hi s4 ht hf => ?_) (fun H4 ys s4 e4 l4 => ?_)⟩
        · obtain ⟨o, ho, hx⟩ := a3.at hi
          have hx := IsIt.mono s4 hx
          rw [List.getD_eq_getElem?_getD, ho] at ht hf
          refine ⟨rfl, ?_⟩
          cases o with
          | some z =>
            obtain ⟨pt, rfl, hpt⟩ := hx
            exact ⟨_, rfl, _, _, _, _, true, rfl, .ty _, .base (.tup hpt), kit_ty (by decide +kernel), true, rfl, iteF (hf rfl _ (Same.refl _))⟩
          | none =>
            obtain ⟨t, ty, kt'⟩ := odd_ty (K := K) (H := H4) hx
            exact ⟨_, rfl, _, _, _, _, false, rfl, .ty _, ty, kit_ty kt', false, rfl, iteT ⟨_, rfl, ht rfl _ _ (Same.refl _)⟩⟩
        · have s34 : Same H3 H4 := s4.trans hid_same
          refine ⟨Nat.zero_le _, fun e0 n0 => ?_⟩
          have s5 := same_upd (o := .lst []) n0
          have sA := s3.trans (s34.trans s5)
          refine ⟨D, e0, ys, rfl, rfl, SqL.of (s5 _ _ e4), sqL_new, _, rfl, ite2 (fun hb => ?_) (fun hb => ?_)⟩
          · -- some are no pairs
            have hne : ys.isEmpty = false := by simpa using hb
            rw [l4] at hne
            have hbad : ¬ ∀ o ∈ i1 ++ i2, o.isSome = true := fun h => by
              have : (List.range (xvs ++ yvs).length).all (fun i => !!((i1 ++ i2).getD i none).isSome) = true := by
                rw [List.all_eq_true]
                intro i hi
                have hi : i < (i1 ++ i2).length := by rw [← a3.1]; simpa using hi
                rw [List.getD_eq_getElem?_getD, List.getElem?_eq_getElem hi, Bool.not_not]
                exact h _ (List.getElem_mem hi)
              rw [this] at hne
              cases hne
            have := fin _ sA
            have e : (onRow shOk css.length (some i1) && (onRow shOk (rowAt css 0).length (some i2) && fits (ratsOf (some i1)) (ratsOf (some i2)) css)) = false := by
              cases e1 : onRow shOk css.length (some i1) with
              | false => rfl
              | true =>
                cases e2 : onRow shOk (rowAt css 0).length (some i2) with
                | false => rfl
                | true =>
                  refine absurd (fun o ho => ?_) hbad
                  rcases List.mem_append.mp ho with h | h
                  · obtain ⟨q, rfl⟩ := (shOk_all e1).2 o h
                    rfl
                  · obtain ⟨q, rfl⟩ := (shOk_all e2).2 o h
                    rfl
            rw [e] at this
            exact this
          · have hem : ys.isEmpty = true := by simpa using hb
            rw [l4, List.all_eq_true] at hem
            have hall : ∀ o ∈ i1 ++ i2, o.isSome = true := fun o ho => by
              obtain ⟨i, hi, e⟩ := List.mem_iff_getElem.mp ho
              have := hem i (by rw [a3.1]; simpa using hi)
              rw [List.getD_eq_getElem?_getD, List.getElem?_eq_getElem hi, Bool.not_not, Option.getD_some, e] at this
              exact this
            have o1 : onRow shOk css.length (some i1) = true := by
              show (decide (i1.length = css.length) && i1.all Option.isSome) = true
              rw [decide_eq_true l1, Bool.true_and, List.all_eq_true]
              exact fun o ho => hall o (List.mem_append_left _ ho)
            have o2 : onRow shOk (rowAt css 0).length (some i2) = true := by
              show (decide (i2.length = (rowAt css 0).length) && i2.all Option.isSome) = true
              rw [decide_eq_true l2, Bool.true_and, List.all_eq_true]
              exact fun o ho => hall o (List.mem_append_right _ ho)
            rw [o1, o2, Bool.true_and, Bool.true_and] at fin
            have A1 := fun (i : Nat) (hi : i < i1.length) => all_some (its := i1) (fun o ho => hall o (List.mem_append_left _ ho)) hi
            have A2 := fun (i : Nat) (hi : i < i2.length) => all_some (its := i2) (fun o ho => hall o (List.mem_append_right _ ho)) hi
            have N1 := fun (i : Nat) (hi : i < i1.length) => b1.2 _ (List.mem_of_getElem? (A1 i hi))
            have N2 := fun (i : Nat) (hi : i < i2.length) => b2.2 _ (List.mem_of_getElem? (A2 i hi))
            generalize ratsOf (some i1) = hs at *
            generalize ratsOf (some i2) = ts at *
            have rk : ∀ i, i < css.length → (rowAt css i).length = k := fun i hi => by
              rw [rowAt_of (List.getElem?_eq_getElem hi)]
              exact (C.row _ (List.getElem_mem hi)).1
            have l2k : i2.length = k := by rw [l2, rk 0 c0]
            generalize upd H4 e0 (.lst []) = H5 at *
            refine ⟨_, rfl, _, rfl, pc, px, cvs, xvs, rfl, SqL.of (sA _ _ hpc), SqL.of (sA _ _ ex), RZ.for_zipL (K := K) (a := pc) (b := px) (xs := cvs) (ys := xvs) (by rw [ac.1, ax.1, l1]) (fun i σ H' => ∃ y4 y5 y6 y7 y8, σ = [some (.ref pc), some (.ref p), some (.ref px), some (.ref py), y4, y5, y6, y7, y8] ∧ Same H H' ∧ ∀ i' j, i' < i → j < k → at0 hs i' - at0 ts j ≤ at0 (rowAt css i') j) ⟨_, _, _, _, _, rfl, sA, fun i' j h => absurd h (Nat.not_lt_zero _)⟩ (fun i σ H' h => ?_) (fun i x y T1 σ H' hx hy h nT => ?_) (fun σ H' h => ?_)⟩
            · obtain ⟨_, _, _, _, _, _, s1, _⟩ := h
              exact ⟨s1.seq (SqL.of hpc), s1.seq (SqL.of ex)⟩
            · obtain ⟨y4, y5, y6, y7, y8, rfl, s1, fit⟩ := h
              obtain ⟨c, hc, pr, rvs, rfl, er, ar⟩ := ac.at hx
              obtain ⟨o, ho, hpy⟩ := ax.at hy
              have hi1 : i < i1.length := (List.getElem?_eq_some_iff.mp ho).1
              have hic : i < css.length := by omega
              rw [A1 i hi1] at ho
              cases ho
              have mc := List.mem_of_getElem? hc
              have lc : c.length = k := (C.row c mc).1
              have sT := same_upd (o := .tup [.ref pr, y]) nT
              have sB := s1.trans sT
              have er' := sB _ _ er
              have ey' := sB _ _ ey
              refine ⟨T1, _, rfl, .inl (.inl upd_same), rfl, _, _, rfl, _, _, rfl, rfl, ?_⟩
              refine ⟨_, rfl, _, rfl, pr, py, rvs, yvs, rfl, SqL.of er', SqL.of ey', fun D2 nD2 => lc_someW (walk_zip (K := K) (a := pr) (b := py) (xs := rvs) (ys := yvs) (n := k) (by rw [ar.1, ay.1, lc, l2k]; omega)) (fun j => decide (at0 c j < at0 hs i - at0 ts j)) nD2 (fun H' s => ⟨s.seq (SqL.of er'), s.seq (SqL.of ey')⟩) (by omega) (fun j x1 H6 H7 kt kf hj s6 yy ht hf => ?_) (fun H6 ys6 s6 e6 l6 => ?_)⟩
              · obtain ⟨T2, z1, z2, rfl, nT2, rfl, hz1, hz2⟩ := yy
                have hz1 : rvs[j]? = some z1 := hz1
                have hz2 : yvs[j]? = some z2 := hz2
                obtain ⟨zc, hzc, gc⟩ := ar.at hz1
                obtain ⟨o2', ho2, gt⟩ := ay.at hz2
                have hi2 : j < i2.length := (List.getElem?_eq_some_iff.mp ho2).1
                rw [A2 j hi2] at ho2
                cases ho2
                have sT2 := same_upd (o := .tup [z1, z2]) nT2
                have sC := sB.trans (s6.trans sT2)
                have gh : IsPr (upd H6 T2 (.tup [z1, z2])) y (at0 hs i) := IsPr.mono hpy sC
                have gt : IsPr (upd H6 T2 (.tup [z1, z2])) z2 (at0 ts j) := IsPr.mono gt sC
                have gc := gc.mono sC
                have nh := N1 i hi1
                have nt := N2 j hi2
                have nc : Nice (b * 300) 1000000000 zc := ((C.row c mc).2 zc (List.mem_of_getElem? hzc)).mono (Nat.dvd_mul_right _ _) (Nat.le_refl _)
                have bh := n300 C.b0 C.b1 (Nat.le_refl _) nh
                have bt := n300 C.b0 C.b1 (Nat.le_refl _) nt
                have bc := n300 C.b0 C.b1 (by decide) nc
                refine ⟨T2, _, rfl, .inl (.inl upd_same), rfl, _, _, rfl, _, _, rfl, rfl, wipe2 (by decide) (by decide), ?_⟩
                refine ⟨_, rfl, _, rfl, _, rfl, spTwo.mk (E := E0) gh gt (bh.mono (by decide)) (bt.mono (by decide)) fun H8 r8 s8 h8 => ?_⟩
                refine ⟨_, _, _, _, rfl, gc.mono s8, h8, bc.mono (by decide), (bh.sub bt).mono (by decide), _, rfl, ?_⟩
                have ez : at0 c j = zc := at0_of hzc
                rw [ez] at ht hf
                refine ite2 (fun hb => ?_) (fun hb => ?_)
                · exact ht hb _ _ (sT2.trans s8)
                · exact hf (by simpa using hb) _ (sT2.trans s8)
              · refine ⟨Nat.zero_le _, fun e9 n9 => ?_⟩
                have s9 := same_upd (o := .lst []) n9
                have sD := sB.trans (s6.trans (hid_same.trans s9))
                refine ⟨D2, e9, ys6, rfl, rfl, SqL.of (s9 _ _ e6), sqL_new, _, rfl, ite2 (fun hb => ?_) (fun hb => ?_)⟩
                · have hne : ys6.isEmpty = false := by simpa using hb
                  rw [l6] at hne
                  have := fin _ sD
                  have ff : fits hs ts css = false := by
                    cases ef : fits hs ts css with
                    | false => rfl
                    | true =>
                      exfalso
                      unfold fits at ef
                      rw [List.all_eq_true] at ef
                      have ef := ef i (by simpa using hic)
                      rw [List.all_eq_true, rowAt_of hc] at ef
                      have : (List.range k).all (fun j => !decide (at0 c j < at0 hs i - at0 ts j)) = true := by
                        rw [List.all_eq_true]
                        intro j hj
                        have := of_decide_eq_true (ef j (by rw [lc]; exact hj))
                        rw [decide_eq_false (Rat.not_lt.mpr this)]
                        rfl
                      rw [this] at hne
                      cases hne
                  rw [ff] at this
                  exact this
                · have hem : ys6.isEmpty = true := by simpa using hb
                  rw [l6, List.all_eq_true] at hem
                  refine ⟨_, _, _, _, _, rfl, sD, fun i' j hi' hj => ?_⟩
                  by_cases e : i' = i
                  · have := hem j (by simpa using hj)
                    rw [e, rowAt_of hc]
                    have h2 : ¬ at0 c j < at0 hs i - at0 ts j := fun h => by
                      rw [decide_eq_true h] at this
                      cases this
                    exact Rat.not_lt.mp h2
                  · exact fit i' j (by omega) hj
            · obtain ⟨y4, y5, y6, y7, y8, rfl, s1, fit⟩ := h
              have := fin _ s1
              have ff : fits hs ts css = true := by
                unfold fits
                rw [List.all_eq_true]
                intro i hi
                rw [List.all_eq_true]
                intro j hj
                have hi : i < css.length := by simpa using hi
                have hj : j < (rowAt css i).length := by simpa using hj
                rw [rk i hi] at hj
                exact decide_eq_true (fit i j (by rw [ac.1]; exact hi) hj)
              rw [ff] at this
              exact this
      · rw [decide_eq_false (show ¬ V.int (i2.length : Int) = V.int ((rowAt css 0).length : Int) from fun z => l2 (by have := V.int.inj z; omega))]
        refine iteT ?_
        have := fin H (Same.refl _)
        have e : onRow shOk (rowAt css 0).length (some i2) = false := by
          show (decide (i2.length = (rowAt css 0).length) && i2.all Option.isSome) = false
          rw [decide_eq_false l2, Bool.false_and]
        rw [e, Bool.false_and, Bool.and_false] at this
        exact this
    · rw [decide_eq_false (show ¬ V.int (i1.length : Int) = V.int (css.length : Int) from fun z => l1 (by have := V.int.inj z; omega))]
      refine iteT ?_
      have := fin H (Same.refl _)
      have e : onRow shOk css.length (some i1) = false := by
        show (decide (i1.length = css.length) && i1.all Option.isSome) = false
        rw [decide_eq_false l1, Bool.false_and]
      rw [e, Bool.false_and] at this
      exact this
end

end Fb

namespace Fb
open PySem PySem.Spec PyProof.Rows L2
section
variable {P : Program} {w : World} {K : PySem.W.Frag} {mg : Str → Option Value} {base : Heap}
/-! ### prices with one thing otherwise -/
structure Two (H : Hp) (a : Addr) (f : Nat) (ls : Addr) (l : Nat → Addr) (is : Nat → List (Option Rat)) (H' : Hp) : Prop where
  new : H ls = none ∧ ∀ s, s < 2 → H (l s) = none
  ne : ls ≠ a ∧ ∀ s, s < 2 → l s ≠ a
  dis : l 0 ≠ l 1 ∧ ∀ s, s < 2 → l s ≠ ls
  at_ : H' ls = some (.lst [.ref (l 0), .ref (l 1)])
  row : ∀ s, s < 2 → ∃ vs, H' (l s) = some (.lst vs) ∧ AllAre (IsIt H') vs (is s)
  same : Same (hid a H) (hid a H')
  well : WellAt H' a f
theorem Two.keep {H : Hp} {a : Addr} {f f' : Nat} {ls : Addr} {l : Nat → Addr} {is : Nat → List (Option Rat)} {H1 H2 : Hp} (T : Two H a f ls l is H1) (s : Same (hid a H1) (hid a H2)) (w : WellAt H2 a f') : Two H a f' ls l is H2 := by
  have t := TS.well T.well s
  have mv : ∀ {p o}, p ≠ a → H1 p = some o → H2 p = some o := fun {p o} hp e => by
    have := s p o (by rw [hid_ne hp]; exact e)
    rwa [hid_ne hp] at this
  refine ⟨T.new, T.ne, T.dis, mv T.ne.1 T.at_, fun i hi => ?_, T.same.trans s, w⟩
  obtain ⟨vs, e, r⟩ := T.row i hi
  exact ⟨vs, mv (T.ne.2 i hi) e, r.imp fun _ _ h => h.ts t⟩
theorem Two.other {l : Nat → Addr} {ls : Addr} (d : l 0 ≠ l 1 ∧ ∀ s, s < 2 → l s ≠ ls) {s t : Nat} (hs : s < 2) (ht : t < 2) (n : t ≠ s) : l t ≠ l s := by
  have : (s = 0 ∧ t = 1) ∨ (s = 1 ∧ t = 0) := by omega
  rcases this with ⟨rfl, rfl⟩ | ⟨rfl, rfl⟩
  · exact fun z => d.1 z.symm
  · exact d.1
theorem Two.setI {H : Hp} {a : Addr} {f : Nat} {ls : Addr} {l : Nat → Addr} {is : Nat → List (Option Rat)} {H1 : Hp} (T : Two H a f ls l is H1) {s j : Nat} (hs : s < 2) {vs : List V} {v : V} {o : Option Rat} (e : H1 (l s) = some (.lst vs)) (hv : IsIt H1 v o) :
    Two H a f ls l (fun t => if t = s then (is s).set j o else is t) (upd H1 (l s) (.lst (vs.set j v))) := by
  have t : TS H1 (upd H1 (l s) (.lst (vs.set j v))) := TS.lst e
  refine ⟨T.new, T.ne, T.dis, by rw [upd_ne (T.dis.2 s hs).symm]; exact T.at_, fun i hi => ?_, fun b u eb => ?_, T.well.upd (T.ne.2 s hs)⟩
  · obtain ⟨vs', e', r⟩ := T.row i hi
    by_cases h : i = s
    · subst h
      rw [e] at e'
      cases e'
      rw [if_pos rfl]
      exact ⟨_, upd_same, (AllAre.set r hv).imp fun _ _ h => h.ts t⟩
    · rw [if_neg h]
      exact ⟨vs', by rw [upd_ne (Two.other T.dis hs hi h)]; exact e', r.imp fun _ _ h => h.ts t⟩
  · have hb : b ≠ l s := fun z => by
      rw [z, hid_ne (T.ne.2 s hs), T.new.2 s hs] at eb
      cases eb
    rw [hid_updN (T.ne.2 s hs), upd_ne hb]
    exact T.same b u eb
theorem Two.setL {H : Hp} {a : Addr} {f : Nat} {ls : Addr} {l : Nat → Addr} {is : Nat → List (Option Rat)} {H1 : Hp} (T : Two H a f ls l is H1) {s : Nat} (hs : s < 2) {p : Addr} {vs : List V} {its : List (Option Rat)} (e : H1 p = some (.lst vs)) (r : AllAre (IsIt H1) vs its)
    (np : H p = none) (na : p ≠ a) (nl : ∀ t, t < 2 → p ≠ l t) (ns : p ≠ ls) :
    Two H a f ls (fun t => if t = s then p else l t) (fun t => if t = s then its else is t) (upd H1 ls (.lst ([V.ref (l 0), V.ref (l 1)].set s (.ref p)))) := by
  have t : TS H1 (upd H1 ls (.lst ([V.ref (l 0), V.ref (l 1)].set s (.ref p)))) := TS.lst T.at_
  have h01 : s = 0 ∨ s = 1 := by omega
  refine ⟨⟨T.new.1, fun i hi => ?_⟩, ⟨T.ne.1, fun i hi => ?_⟩, ⟨?_, fun i hi => ?_⟩, ?_, fun i hi => ?_, fun b u eb => ?_, T.well.upd T.ne.1⟩
  · by_cases h : i = s
    · rw [if_pos h]; exact np
    · rw [if_neg h]; exact T.new.2 i hi
  · by_cases h : i = s
    · rw [if_pos h]; exact na
    · rw [if_neg h]; exact T.ne.2 i hi
  · rcases h01 with rfl | rfl
    · exact nl 1 (by decide)
    · exact fun z => nl 0 (by decide) z.symm
  · by_cases h : i = s
    · rw [if_pos h]; exact ns
    · rw [if_neg h]; exact T.dis.2 i hi
  · rw [upd_same]
    rcases h01 with rfl | rfl <;> rfl
  · by_cases h : i = s
    · rw [if_pos h, if_pos h, upd_ne ns]
      exact ⟨vs, e, r.imp fun _ _ h => h.ts t⟩
    · rw [if_neg h, if_neg h, upd_ne (T.dis.2 i hi)]
      obtain ⟨vs', e', r'⟩ := T.row i hi
      exact ⟨vs', e', r'.imp fun _ _ h => h.ts t⟩
  · have hb : b ≠ ls := fun z => by
      rw [z, hid_ne T.ne.1, T.new.1] at eb
      cases eb
    rw [hid_updN T.ne.1, upd_ne hb]
    exact T.same b u eb
theorem IsIt.hid {H : Hp} {a : Addr} {n : Nat} {v : V} {o : Option Rat} (w : WellAt H a n) (h : IsIt H v o) : IsIt (Fb.hid a H) v o := by
  cases o with
  | none => exact h
  | some q => exact IsTup2.hid w h
theorem Two.rows {H : Hp} {a : Addr} {f : Nat} {ls : Addr} {l : Nat → Addr} {is : Nat → List (Option Rat)} {H1 : Hp} (T : Two H a f ls l is H1) {s t : Nat} (hs : s < 2) (ht : t < 2) {p : Addr} (np : H1 p = none) :
    Same (hid a H) (hid a (upd H1 p (.tup [.ref (l s), .ref (l t)]))) ∧ WellAt (upd H1 p (.tup [.ref (l s), .ref (l t)])) a f ∧ TwoRows (hid a (upd H1 p (.tup [.ref (l s), .ref (l t)]))) p (is s) (is t) := by
  obtain ⟨w, sm⟩ := well_new (o := .tup [.ref (l s), .ref (l t)]) T.well np
  have T2 := T.keep sm w
  have rw1 : ∀ {i}, i < 2 → IsPRow (hid a (upd H1 p (.tup [.ref (l s), .ref (l t)]))) (.ref (l i)) (is i) := fun {i} hi => by
    obtain ⟨vs, e, r⟩ := T2.row i hi
    exact ⟨_, vs, rfl, by rw [hid_ne (T2.ne.2 i hi)]; exact e, r.imp fun _ _ h => IsIt.hid w h⟩
  exact ⟨T2.same, w, _, _, by rw [hid_updN (T.well.ne np)]; exact upd_same, rw1 hs, rw1 ht⟩
def spOther : Sp := fun vs H Q _ => ∃ (a p : Addr) (i1 i2 : List (Option Rat)) (b M l f : Nat), vs = [.ref a, .ref p] ∧ WellAt H a (f + 4) ∧ TwoRows (hid a H) p i1 i2 ∧ NiB (b * 300) M l i1 ∧ NiB (b * 300) M l i2 ∧ 0 < b ∧ b ≤ 12 ∧ l ≤ 60 ∧ M ≤ 1000000090 ∧
  ∀ H' r i1' i2', Same (hid a H) (hid a H') → WellAt H' a f → TwoRows (hid a H') r i1' i2' → NiB (b * 300) (M + 5) (l + 1) i1' → NiB (b * 300) (M + 5) (l + 1) i2' → Q (.ref r) H'
theorem NiB.set {S M l j : Nat} {its : List (Option Rat)} {o : Option Rat} (h : NiB S M l its) (ho : ∀ q, o = some q → Nice S (M + 5) q) : NiB S (M + 5) (l + 1) (its.set j o) := by
  refine ⟨by rw [List.length_set]; have := h.1; omega, fun q hq => ?_⟩
  rcases List.mem_or_eq_of_mem_set hq with e | e
  · exact (h.2 q e).mono (Nat.dvd_refl _) (by omega)
  · exact ho q e.symm
theorem at2 {l : Nat → Addr} {s : Nat} (hs : s < 2) : ([V.ref (l 0), V.ref (l 1)] : List V)[s]? = some (.ref (l s)) := by
  have : s = 0 ∨ s = 1 := by omega
  rcases this with rfl | rfl <;> rfl
theorem ok_l_otherwise (T : Txt K mg) : FnOk P w K mg base CX0 4 T.f_l_otherwise T.d_l_otherwise ["_law_well_here", "_law_prices_here"] spOther := by
  refine T.F_l_otherwise.ok sc_l_otherwise (fun vs H Q E h => ?_) (fun cdv A outer s H vs Q E hr h => ?_)
  · obtain ⟨a, p, i1, i2, b, M, l, f, rfl, _⟩ := h
    rfl
  · obtain ⟨a, p, i1, i2, b, M, lm, f, rfl, hw, ⟨x, y, hp, ⟨px, xvs, rfl, ex, ax⟩, ⟨py, yvs, rfl, ey, ay⟩⟩, b1, b2, b0, b12, l60, hM, q⟩ := h
    refine ⟨_, (pss_cons (ps_set (i := 2) sc_l_otherwise.nd rfl (.inl rfl) (pe_lst (pa_cons (pe_callTy call_list_of (by rfl) T.z_list (by decide +kernel) (pa_cons (pe_ix ix_tup (pv 1) pe_int (fun _ _ => rfl)) pa_nil)) (pa_cons (pe_callTy call_list_of (by rfl) T.z_list (by decide +kernel) (pa_cons (pe_ix ix_tup (pv 1) pe_int (fun _ _ => rfl)) pa_nil)) pa_nil))))
 (pss_cons (ps_set (i := 3) sc_l_otherwise.nd rfl (.inl rfl) (pe_call (ok_l_draw T) (hr.mono (by decide)) (by rfl) T.g_l_draw T.F_l_draw.kp T.b_l_draw .nil pass0 (pa_cons (pv 0) (pa_cons pe_int pa_nil))))
 (pss_cons (ps_set (i := 4) sc_l_otherwise.nd rfl (.inl rfl) (pe_call (ok_l_draw T) (hr.mono (by decide)) (by rfl) T.g_l_draw T.F_l_draw.kp T.b_l_draw .nil pass0 (pa_cons (pv 0) (pa_cons (pe_callB (call_max2 rfl) (by rfl) T.z_max (by decide +kernel) (pa_cons pe_int (pa_cons (pe_callB call_len_seq (by rfl) T.z_len (by decide +kernel) (pa_cons (pe_ix ix_list (pv 2) (pv 3) (fun _ _ => rfl)) pa_nil)) pa_nil))) pa_nil))))
 (pss_cons (ps_set (i := 5) sc_l_otherwise.nd rfl (.inl rfl) (pe_call (ok_l_draw T) (hr.mono (by decide)) (by rfl) T.g_l_draw T.F_l_draw.kp T.b_l_draw .nil pass0 (pa_cons (pv 0) (pa_cons pe_int pa_nil))))
 (pss_cons (ps_if (PW.pt (pw_or (pt_cmpR (op_eqNil hr.units0) (pe_ix ix_list (pv 2) (pv 3) (fun _ _ => rfl)) (pe_lst pa_nil) (nomark _)) (pw_or1 (pt_cmpR op_eq (pv 5) pe_int (nomark _)))))
  (pss_one (ps_ret (pe_tup (pa_cons (pe_ix ix_list (pv 2) pe_int (fun _ _ => rfl)) (pa_cons (pe_ix ix_list (pv 2) pe_int (fun _ _ => rfl)) pa_nil)))))
  pss_nil)
 (pss_cons (ps_if (pt_cmpR op_eq (pv 5) pe_int (nomark _))
  (pss_one (ps_asg (pe_call (ok_l_one T) (hr.mono (by decide)) (by rfl) T.g_l_one T.F_l_one.kp T.b_l_one .nil pass0 (pa_cons (pv 0) (pa_cons (pe_lst (pa_cons (pe_slice sl_list (pe_ix ix_list (pv 2) (pv 3) (fun _ _ => rfl)) (po_some pe_int) po_none) (pa_cons (pe_op op_cat (pe_ix ix_list (pv 2) (pv 3) (fun _ _ => rfl)) (pe_lst (pa_cons (pe_tup (pa_cons pe_int (pa_cons pe_int pa_nil))) pa_nil))) pa_nil))) pa_nil))) (pg_sub (pv 2) (pv 3) set_list)))
  (pss_one (ps_if (pt_cmpR op_eq (pv 5) pe_int (nomark _))
  (pss_one (ps_asg (pe_call (ok_l_one T) (hr.mono (by decide)) (by rfl) T.g_l_one T.F_l_one.kp T.b_l_one .nil pass0 (pa_cons (pv 0) (pa_cons (pe_lst (pa_cons pe_int (pa_cons pe_non (pa_cons pe_str (pa_cons pe_bl pa_nil))))) pa_nil))) (pg_sub (pe_ix ix_list (pv 2) (pv 3) (fun _ _ => rfl)) (pv 4) set_list)))
  (pss_one (ps_if (pt_val (pe_callB call_isi (by rfl) T.z_isinstance (by decide +kernel) (pa_cons (pe_ix ix_list (pe_ix ix_list (pv 2) (pv 3) (fun _ _ => rfl)) (pv 4) (fun _ _ => rfl)) (pa_cons (pe_bltn (v := .ty "tuple") (by rfl) T.z_tuple (by decide +kernel) rfl) pa_nil))))
  (pss_one (ps_asg (pe_call (ok_l_added T) (hr.mono (by decide)) (by rfl) T.g_l_added T.F_l_added.kp T.b_l_added .nil pass0 (pa_cons (pe_ix ix_list (pe_ix ix_list (pv 2) (pv 3) (fun _ _ => rfl)) (pv 4) (fun _ _ => rfl)) (pa_cons (pe_call (ok_l_one T) (hr.mono (by decide)) (by rfl) T.g_l_one T.F_l_one.kp T.b_l_one .nil pass0 (pa_cons (pv 0) (pa_cons (pe_lst (pa_cons (pe_tup (pa_cons pe_int (pa_cons pe_int pa_nil))) (pa_cons (pe_tup (pa_cons (pe_un un_neg pe_int) (pa_cons pe_int pa_nil))) (pa_cons (pe_tup (pa_cons pe_int (pa_cons pe_int pa_nil))) (pa_cons (pe_tup (pa_cons (pe_un un_neg pe_int) (pa_cons pe_int pa_nil))) pa_nil))))) pa_nil))) pa_nil))) (pg_sub (pe_ix ix_list (pv 2) (pv 3) (fun _ _ => rfl)) (pv 4) set_list)))
  pss_nil)))))
 (pss_one (ps_ret (pe_tup (pa_cons (pe_ix ix_list (pv 2) pe_int (fun _ _ => rfl)) (pa_cons (pe_ix ix_list (pv 2) pe_int (fun _ _ => rfl)) pa_nil))))))))))), ?_⟩
    have S0 : 0 < b * 300 := by omega
    -- two copies
    refine ⟨_, rfl, p, _, _, _, rfl, rfl, .inl (.inl (hid_same _ _ hp)), atI_nat (j := 0) rfl, px, xvs, rfl, .inl (SqL.of (hid_same _ _ ex)), fun c0 n0 => ?_⟩
    obtain ⟨w0, s0⟩ := well_new (o := .lst xvs) hw n0
    refine ⟨_, rfl, p, _, _, _, rfl, rfl, .inl (.inl (hid_same _ _ (s0 _ _ hp))), atI_nat (j := 1) rfl, py, yvs, rfl, .inl (SqL.of (hid_same _ _ (s0 _ _ ey))), fun c1 n1 => ?_⟩
    obtain ⟨w1, s1⟩ := well_new (o := .lst yvs) w0 n1
    refine ⟨by show 2 ≤ sizeLine; decide, fun ls nls => ?_⟩
    obtain ⟨w2, s2⟩ := well_new (o := .lst [.ref c0, .ref c1]) w1 nls
    have c01 : c0 ≠ c1 := fun z => by rw [← z, upd_same] at n1; cases n1
    have cl1 : c1 ≠ ls := fun z => by rw [← z, upd_same] at nls; cases nls
    have cl0 : c0 ≠ ls := fun z => by rw [← z, upd_ne c01, upd_same] at nls; cases nls
    have T0 : Two H a (f + 4) ls (fun t => if t = 0 then c0 else c1) (fun t => if t = 0 then i1 else i2) (upd (upd (upd H c0 (.lst xvs)) c1 (.lst yvs)) ls (.lst [.ref c0, .ref c1])) := by
      have n1H : H c1 = none := by rwa [upd_ne c01.symm] at n1
      have nlH : H ls = none := by rwa [upd_ne cl1.symm, upd_ne cl0.symm] at nls
      have sA := s0.trans (s1.trans s2)
      refine ⟨⟨nlH, fun i hi => ?_⟩, ⟨hw.ne nlH, fun i hi => ?_⟩, ⟨c01, fun i hi => ?_⟩, upd_same, fun i hi => ?_, sA, w2⟩
      · split
        · exact n0
        · exact n1H
      · split
        · exact hw.ne n0
        · exact hw.ne n1H
      · split
        · exact cl0
        · exact cl1
      · split
        · exact ⟨xvs, by rw [upd_ne cl0, upd_ne c01, upd_same], ax.imp fun _ _ h => IsIt.mono (sA.trans hid_same) h⟩
        · exact ⟨yvs, by rw [upd_ne cl1, upd_same], ay.imp fun _ _ h => IsIt.mono (sA.trans hid_same) h⟩
    have bb : ∀ t, t < 2 → NiB (b * 300) M lm ((fun t => if t = 0 then i1 else i2) t) := fun t _ => by
      dsimp only; split
      · exact b1
      · exact b2
    generalize upd (upd (upd H c0 (.lst xvs)) c1 (.lst yvs)) ls (.lst [.ref c0, .ref c1]) = H0 at T0
    generalize (fun t => if t = 0 then c0 else c1) = l at T0
    generalize (fun t => if t = 0 then i1 else i2) = is at T0 bb
    clear w0 s0 w1 s1 w2 s2 n0 n1 nls c01 cl0 cl1
    -- side, place, pick
    refine ⟨_, rfl, a, 2, f + 3, rfl, T0.well, by decide, log_small (m := 2) (by decide), fun d H1 d0 d1 s1 w1 => ?_⟩
    have T1 := T0.keep s1 w1
    obtain ⟨sd, rfl, hsd⟩ : ∃ sd : Nat, d = (sd : Int) ∧ sd < 2 := ⟨d.toNat, by omega, by omega⟩
    obtain ⟨vs1, e1, r1⟩ := T1.row sd hsd
    have lv1 : vs1.length = (is sd).length := r1.1
    have ls1 := (bb sd hsd).1
    refine ⟨_, rfl, _, rfl, _, rfl, ls, _, _, _, rfl, rfl, SqL.of T1.at_, atI_nat (at2 hsd), l sd, vs1, rfl, .inl (SqL.of e1), _, _, rfl, ?_⟩
    refine ⟨a, _, f + 2, rfl, T1.well, by split <;> omega, ?_, fun g H2 g0 g1 s2 w2 => ?_⟩
    · have e : (if (vs1.length : Int) > 1 then (vs1.length : Int) else 1) = (((if vs1.length > 1 then vs1.length else 1) : Nat) : Int) := by split <;> split <;> omega
      rw [e]
      exact log_small (by split <;> omega)
    have T2 := T1.keep s2 w2
    obtain ⟨at_, rfl, hat⟩ : ∃ at_ : Nat, g = (at_ : Int) ∧ (0 < vs1.length → at_ < vs1.length) := ⟨g.toNat, by omega, fun h => by
      split at g1 <;> omega⟩
    refine ⟨_, rfl, a, 6, f + 1, rfl, T2.well, by decide, log_small (m := 6) (by decide), fun pick H3 k0 k6 s3 w3 => ?_⟩
    have T3 := T2.keep s3 w3
    have swp : ∀ {H1 : Hp} {t : Addr}, Two H a (f + 1) ls l is H1 → H1 t = none → Q (.ref t) (upd H1 t (.tup [.ref (l 1), .ref (l 0)])) := fun {H1 t} T nt => by
      obtain ⟨a1, a2, a3⟩ := T.rows (s := 1) (t := 0) (by decide) (by decide) nt
      exact q _ t _ _ a1 (a2.mono (by omega)) a3 ((bb 1 (by decide)).mono (by omega) (by omega)) ((bb 0 (by decide)).mono (by omega) (by omega))
    obtain ⟨vs3, e3, r3⟩ := T3.row sd hsd
    have lv3 : vs3.length = vs1.length := by rw [r3.1, lv1]
    refine ⟨_, rfl, _, rfl, ls, _, _, _, rfl, rfl, SqL.of T3.at_, atI_nat (at2 hsd), Nat.zero_le _, fun e0 n0 => ?_⟩
    have s4 := same_upd (o := .lst []) n0
    have T4 := T3.keep (hid_mono s4) (T3.well.same s4)
    have e3 := s4 _ _ e3
    generalize hH4 : upd H3 e0 (.lst []) = H4 at *
    have q0 : SqL K H4 e0 [] := by rw [← hH4]; exact sqL_new
    refine ⟨l sd, e0, vs3, rfl, rfl, SqL.of e3, q0, _, rfl, ite2 (fun hb => ?_) (fun hb => ?_)⟩
    · exact ⟨_, rfl, ls, _, _, _, rfl, rfl, SqL.of T4.at_, atI_nat (j := 1) rfl, _, rfl, ls, _, _, _, rfl, rfl, SqL.of T4.at_, atI_nat (j := 0) rfl, by show 2 ≤ sizeLine; decide, fun t nt => swp T4 nt⟩
    have pos : 0 < vs1.length := by
      rw [← lv3]
      cases vs3 with
      | nil => exact absurd rfl hb
      | cons _ _ => simp
    have hat := hat pos
    refine ⟨_, rfl, rfl, _, rfl, ite2 (fun hb => ?_) (fun hb => ?_)⟩
    · exact ⟨_, rfl, ls, _, _, _, rfl, rfl, SqL.of T4.at_, atI_nat (j := 1) rfl, _, rfl, ls, _, _, _, rfl, rfl, SqL.of T4.at_, atI_nat (j := 0) rfl, by show 2 ≤ sizeLine; decide, fun t nt => swp T4 nt⟩
    clear swp T3 T2 T1 T0
    have b4 : ∀ t, t < 2 → NiB (b * 300) (M + 5) (lm + 1) (is t) := fun t ht => (bb t ht).mono (by omega) (by omega)
    dsimp only [tNext]
    refine seq_fin (t := tIfS _ _ _) (fun σ H' => ∃ l' is', σ = [some (.ref a), some (.ref p), some (.ref ls), some (.int sd), some (.int at_), some (.int pick)] ∧ Two H a f ls l' is' H' ∧ ∀ t, t < 2 → NiB (b * 300) (M + 5) (lm + 1) (is' t)) (fun σ H' h => ?_) (fun fin => ?_)
    · obtain ⟨l', is', rfl, T5, bn⟩ := h
      refine ⟨_, rfl, ls, _, _, _, rfl, rfl, SqL.of T5.at_, atI_nat (j := 0) rfl, _, rfl, ls, _, _, _, rfl, rfl, SqL.of T5.at_, atI_nat (j := 1) rfl, by show 2 ≤ sizeLine; decide, fun t nt => ?_⟩
      obtain ⟨a1, a2, a3⟩ := T5.rows (s := 0) (t := 1) (by decide) (by decide) nt
      exact q _ t _ _ a1 a2 a3 (bn 0 (by decide)) (bn 1 (by decide))
    · refine ⟨_, rfl, rfl, _, rfl, ite2 (fun hb => ?_) (fun hb => ?_)⟩
      · -- a list more or less
        have a4 := T4.row sd hsd
        refine ⟨_, rfl, _, rfl, _, rfl, ls, _, _, _, rfl, rfl, SqL.of T4.at_, atI_nat (at2 hsd), 1, rfl, l sd, vs3, rfl, SqL.of e3, fun p1 n1 => ?_⟩
        rw [show (1 : Int) = ((1 : Nat) : Int) from rfl, cut_from (by omega)]
        obtain ⟨w5, s5⟩ := well_new (o := .lst (vs3.drop 1)) T4.well n1
        have T5 := T4.keep s5 w5
        have u1 := same_upd (o := .lst (vs3.drop 1)) n1
        have x1 : (upd H4 p1 (.lst (vs3.drop 1))) p1 = some (.lst (vs3.drop 1)) := upd_same
        generalize upd H4 p1 (.lst (vs3.drop 1)) = H5 at *
        refine ⟨_, rfl, _, rfl, ls, _, _, _, rfl, rfl, SqL.of T5.at_, atI_nat (at2 hsd), by show 2 ≤ sizeLine; decide, fun tp ntp => ⟨by show 1 ≤ sizeLine; decide, fun p2 n2 => ?_⟩⟩
        have u2 := same_upd (o := .tup [.int 0, .int 1]) ntp
        have x2 : (upd H5 tp (.tup [.int 0, .int 1])) tp = some (.tup [.int 0, .int 1]) := upd_same
        generalize upd H5 tp (.tup [.int 0, .int 1]) = H6 at *
        have u3 := same_upd (o := .lst [.ref tp]) n2
        have x3 : (upd H6 p2 (.lst [.ref tp])) p2 = some (.lst [.ref tp]) := upd_same
        generalize upd H6 p2 (.lst [.ref tp]) = H7 at *
        have u123 := u1.trans (u2.trans u3)
        refine ⟨l sd, p2, vs3, _, rfl, rfl, u123 _ _ e3, x3, Nat.le_of_lt (small1000 (by show vs3.length + 1 ≤ 1000; omega)), fun p3 n3 => ?_⟩
        have u4 := same_upd (o := .lst (vs3 ++ [.ref tp])) n3
        have x4 : (upd H7 p3 (.lst (vs3 ++ [.ref tp]))) p3 = some (.lst (vs3 ++ [.ref tp])) := upd_same
        have n3' : H7 p3 = none := n3
        generalize upd H7 p3 (.lst (vs3 ++ [.ref tp])) = H8 at *
        refine ⟨by show 2 ≤ sizeLine; decide, fun p4 n4 => ?_⟩
        have u5 := same_upd (o := .lst [.ref p1, .ref p3]) n4
        have uA := u123.trans u4
        have w8 := T4.well.same uA
        have T9 := T4.keep (hid_mono (uA.trans u5)) (T4.well.same (uA.trans u5))
        refine ⟨a, p4, _, f, rfl, w8.same u5, sqL_hid w8 n4, by show 0 < 2; decide, by show 2 ≤ 1000; decide, fun i x H9 hx s9 w9 => ?_⟩
        have T10 := T9.keep s9 w9
        have old : ∀ {c}, H4 c = none → H c = none ∧ c ≠ a ∧ (∀ t, t < 2 → c ≠ l t) ∧ c ≠ ls := fun {c} hc => by
          refine ⟨none_back T4.same T4.well hc, T4.well.ne hc, fun t ht z => ?_, fun z => ?_⟩
          · obtain ⟨vv, ee, _⟩ := T4.row t ht
            rw [z, ee] at hc
            cases hc
          · rw [z, T4.at_] at hc
            cases hc
        have mv : ∀ {c o}, c ≠ a → H8 c = some o → H9 c = some o := fun {c o} hc e => by
          have := s9 c o (by rw [hid_ne hc]; exact u5 _ _ e)
          rwa [hid_ne hc] at this
        have TS9 : TS H8 H9 := (TS.same u5).trans (TS.well (w8.same u5) s9)
        have r4 : AllAre (IsIt H9) vs3 (is sd) := by
          obtain ⟨vv, ee, rr⟩ := T4.row sd hsd
          rw [e3] at ee
          cases ee
          exact rr.imp fun _ _ h => (IsIt.mono uA h).ts TS9
        obtain ⟨pq, vq, iq, rfl, eq, rq, oq, nq⟩ : ∃ pq vq iq, x = .ref pq ∧ H9 pq = some (.lst vq) ∧ AllAre (IsIt H9) vq iq ∧ (H pq = none ∧ pq ≠ a ∧ (∀ t, t < 2 → pq ≠ l t) ∧ pq ≠ ls) ∧ NiB (b * 300) (M + 5) (lm + 1) iq := by
          have hm : x = .ref p1 ∨ x = .ref p3 := by
            have := List.mem_of_getElem? hx
            simpa using this
          rcases hm with rfl | rfl
          · have o1 := old n1
            refine ⟨p1, _, (is sd).drop 1, rfl, mv o1.2.1 (u4 _ _ (u3 _ _ (u2 _ _ x1))), r4.drop 1, o1, ?_⟩
            have := b4 sd hsd
            exact ⟨by rw [List.length_drop]; have := this.1; omega, fun q hq => this.2 q (List.mem_of_mem_drop hq)⟩
          · have nn : H4 p3 = none := by
              cases e : H4 p3 with
              | none => rfl
              | some o =>
                have := u123 _ _ e
                rw [n3'] at this
                cases this
            have o3 := old nn
            refine ⟨p3, _, is sd ++ [some 0], rfl, mv o3.2.1 x4, r4.snoc ?_, o3, ?_⟩
            · exact ⟨tp, rfl, TS9 _ _ (u4 _ _ (u3 _ _ x2))⟩
            · have := bb sd hsd
              refine ⟨by rw [List.length_append]; have := this.1; simp; omega, fun q hq => ?_⟩
              rcases List.mem_append.mp hq with h | h
              · exact (this.2 q h).mono (Nat.dvd_refl _) (by omega)
              · have : q = 0 := by simpa using h
                rw [this]
                exact Nice.zero.mono (Nat.dvd_refl _) (Nat.zero_le _)
        refine ⟨_, rfl, _, rfl, ls, _, _, sd, rfl, rfl, T10.at_, ?_, ?_⟩
        · exact ixn (l := [V.ref (l 0), V.ref (l 1)]) (by show sd < 2; exact hsd)
        · refine fin _ _ ⟨_, _, rfl, T10.setL hsd eq rq oq.1 oq.2.1 oq.2.2.1 oq.2.2.2, fun t ht => ?_⟩
          split
          · exact nq
          · exact b4 t ht
      · refine ⟨_, rfl, rfl, _, rfl, ite2 (fun hb => ?_) (fun hb => ?_)⟩
        · -- what is no pair
          refine ⟨_, rfl, by show 4 ≤ sizeLine; decide, fun p1 n1 => ?_⟩
          have u1 := same_upd (o := .lst [.int 0, .non, .str "0", .bl true]) n1
          have T5 := T4.keep (hid_mono u1) (T4.well.same u1)
          refine ⟨a, p1, _, f, rfl, T5.well, sqL_hid T4.well n1, by decide, by decide, fun i x H6 hx s6 w6 => ?_⟩
          have T6 := T5.keep s6 w6
          obtain ⟨vs6, e6, r6⟩ := T6.row sd hsd
          have ho : odd x := by
            rcases mem4 hx with e | e | e | e
            · exact .inl e
            · exact .inr (.inl e)
            · exact .inr (.inr (.inl e))
            · exact .inr (.inr (.inr e))
          refine ⟨_, rfl, _, rfl, ls, _, _, _, rfl, rfl, SqL.of T6.at_, atI_nat (at2 hsd), _, rfl, l sd, vs6, _, at_, rfl, rfl, e6, ixn (by rw [r6.1]; omega), ?_⟩
          refine fin _ _ ⟨_, _, rfl, T6.setI hsd (j := at_) e6 (o := none) ho, fun t ht => ?_⟩
          split
          · exact (bb sd hsd).set fun q hq => by cases hq
          · exact b4 t ht
        · -- a pair a little otherwise
          have l3 : at_ < (is sd).length := by omega
          obtain ⟨vs5, e5, r5⟩ := T4.row sd hsd
          have hv5 : at_ < vs5.length := by rw [r5.1]; exact l3
          obtain ⟨o, ho, hx⟩ := r5.at (List.getElem?_eq_getElem hv5)
          refine ⟨_, rfl, _, rfl, ls, _, _, _, rfl, rfl, SqL.of T4.at_, atI_nat (at2 hsd), _, rfl, l sd, vs5, _, _, rfl, rfl, SqL.of e5, atI_nat (List.getElem?_eq_getElem hv5), ?_⟩
          cases o with
          | none =>
            obtain ⟨t, ty, kt⟩ := odd_ty (K := K) (H := H4) hx
            exact ⟨_, _, _, _, false, rfl, .ty _, ty, kit_ty kt, false, rfl, iteF (fin _ _ ⟨_, _, rfl, T4.keep (Same.refl _) (T4.well.mono (by omega)), b4⟩)⟩
          | some z =>
            obtain ⟨pt, ept, hpt⟩ := id hx
            have nz := (bb sd hsd).2 z (List.mem_of_getElem? ho)
            rw [ept]
            refine ⟨_, _, _, _, true, rfl, .ty _, .base (.tup hpt), kit_ty (by decide +kernel), true, rfl, iteT ?_⟩
            refine ⟨_, rfl, _, rfl, ls, _, _, _, rfl, rfl, SqL.of T4.at_, atI_nat (at2 hsd), _, rfl, l sd, vs5, _, _, rfl, rfl, SqL.of e5, atI_nat (List.getElem?_eq_getElem hv5), _, rfl, ?_⟩
            refine ⟨by show 2 ≤ sizeLine; decide, fun t1 m1 => ?_⟩
            have u1 := same_upd (o := .tup [.int 1, .int 100]) m1
            have x1 : (upd H4 t1 (.tup [.int 1, .int 100])) t1 = some (.tup [.int 1, .int 100]) := upd_same
            generalize upd H4 t1 (.tup [.int 1, .int 100]) = G1 at *
            refine ⟨1, rfl, by show 2 ≤ sizeLine; decide, fun t2 m2 => ?_⟩
            have u2 := same_upd (o := .tup [.int (-1), .int 100]) m2
            have x2 : (upd G1 t2 (.tup [.int (-1), .int 100])) t2 = some (.tup [.int (-1), .int 100]) := upd_same
            generalize upd G1 t2 (.tup [.int (-1), .int 100]) = G2 at *
            refine ⟨by show 2 ≤ sizeLine; decide, fun t3 m3 => ?_⟩
            have u3 := same_upd (o := .tup [.int 5, .int 1]) m3
            have x3 : (upd G2 t3 (.tup [.int 5, .int 1])) t3 = some (.tup [.int 5, .int 1]) := upd_same
            generalize upd G2 t3 (.tup [.int 5, .int 1]) = G3 at *
            refine ⟨5, rfl, by show 2 ≤ sizeLine; decide, fun t4 m4 => ?_⟩
            have u4 := same_upd (o := .tup [.int (-5), .int 1]) m4
            have x4 : (upd G3 t4 (.tup [.int (-5), .int 1])) t4 = some (.tup [.int (-5), .int 1]) := upd_same
            generalize upd G3 t4 (.tup [.int (-5), .int 1]) = G4 at *
            refine ⟨by show 4 ≤ sizeLine; decide, fun p5 m5 => ?_⟩
            have u5 := same_upd (o := .lst [.ref t1, .ref t2, .ref t3, .ref t4]) m5
            have uA := u1.trans (u2.trans (u3.trans u4))
            have w4 := T4.well.same uA
            have T5 := T4.keep (hid_mono (uA.trans u5)) (T4.well.same (uA.trans u5))
            refine ⟨a, p5, _, f, rfl, T5.well, sqL_hid w4 m5, by show 0 < 4; decide, by show 4 ≤ 1000; decide, fun i x H6 hx6 s6 w6 => ?_⟩
            have T6 := T5.keep s6 w6
            have TS6 : TS G4 H6 := (TS.same u5).trans (TS.well T5.well s6)
            obtain ⟨nn, dd, htt, h5, hdv, hd0, hd1⟩ : ∃ (nn : Int) (dd : Nat), IsTup2 H6 x nn (dd : Int) ∧ nn.natAbs ≤ 5 * dd ∧ dd ∣ b * 300 ∧ 0 < dd ∧ dd ≤ 100 := by
              have dv : ∀ {d : Nat}, d ∣ 300 → d ∣ b * 300 := fun h => Nat.dvd_trans h (Nat.dvd_mul_left _ _)
              rcases mem4 hx6 with e | e | e | e
              · exact ⟨1, 100, ⟨t1, e, TS6 _ _ (u4 _ _ (u3 _ _ (u2 _ _ x1)))⟩, by decide, dv (by decide), by decide, by decide⟩
              · exact ⟨-1, 100, ⟨t2, e, TS6 _ _ (u4 _ _ (u3 _ _ x2))⟩, by decide, dv (by decide), by decide, by decide⟩
              · exact ⟨5, 1, ⟨t3, e, TS6 _ _ (u4 _ _ x3)⟩, by decide, dv (by decide), by decide, by decide⟩
              · exact ⟨-5, 1, ⟨t4, e, TS6 _ _ x4⟩, by decide, dv (by decide), by decide, by decide⟩
            have hz6 : IsPr H6 vs5[at_] z := ⟨pt, ept, TS6 _ _ (uA _ _ hpt)⟩
            have bz : Bd 4000 z := (n300 b0 b12 (by omega) nz).mono (by decide)
            have nd := Nice.of (t := nn) hd0 hdv h5
            have sm : ∀ {y : Nat}, y ≤ 500 → y < 2 ^ 4000 := fun {y} h => Nat.lt_of_lt_of_le (show y < 2 ^ 9 by omega) (Nat.pow_le_pow_right (by decide) (by decide))
            refine ⟨_, _, _, _, nn, (dd : Int), rfl, hz6, htt, bz.num, den_abs bz, sm (by omega), nat_abs (sm (by omega)), den_ne _, by omega, fun H7 r7 s7 h7 => ?_⟩
            have h7 : IsPr H7 r7 (z + Rat.divInt nn (dd : Int)) := by
              have := h7
              dsimp only at this
              rw [divInt_self] at this
              exact this
            have T7 := T6.keep (hid_mono s7) (T6.well.same s7)
            obtain ⟨vs7, e7, r7'⟩ := T7.row sd hsd
            refine ⟨_, rfl, _, rfl, ls, _, _, _, rfl, rfl, SqL.of T7.at_, atI_nat (at2 hsd), _, rfl, l sd, vs7, _, at_, rfl, rfl, e7, ixn (by rw [r7'.1]; omega), ?_⟩
            refine fin _ _ ⟨_, _, rfl, T7.setI hsd (j := at_) e7 (o := some _) h7, fun t ht => ?_⟩
            split
            · exact (bb sd hsd).set fun q hq => by
                cases hq
                exact nz.add S0 nd
            · exact b4 t ht
end

end Fb

namespace Fb
open PySem PySem.Spec PyProof.Rows L2
section
variable {P : Program} {w : World} {K : PySem.W.Frag} {mg : Str → Option Value} {base : Heap}
/-! ### what prices bring and a plan costs, by pairs -/
theorem prod_bd {qs rs : List Rat} (h1 : ∀ q ∈ qs, Bd 43 q) (h2 : ∀ q ∈ rs, Bd 21 q) : ∀ q ∈ List.zipWith (· * ·) qs rs, Bd 64 q := fun q hq => by
  obtain ⟨x, hx, y, hy, rfl⟩ := mem_zip hq
  exact (h1 x hx).mul (h2 y hy)
theorem dot_bd {qs rs : List Rat} (h1 : ∀ q ∈ qs, Bd 43 q) (h2 : ∀ q ∈ rs, Bd 21 q) (l : qs.length ≤ 12) : Bd 1000 (dot qs rs) := by
  refine (rsum_bd (prod_bd h1 h2)).mono ?_
  have : (List.zipWith (· * ·) qs rs).length ≤ 12 := by rw [List.length_zipWith]; omega
  omega
theorem prow_of {H : Hp} {v : V} {qs : List Rat} (h : IsPrs H v qs) : IsPRow H v (qs.map some) := by
  obtain ⟨p, vs, e, h, a⟩ := h
  refine ⟨p, vs, e, h, ⟨by rw [a.1, List.length_map], fun i v o hv ho => ?_⟩⟩
  rw [List.getElem?_map] at ho
  obtain ⟨q, hq, rfl⟩ := Option.map_eq_some_iff.mp ho
  exact a.2 i v q hv hq
theorem shares_of {C : Addr} {H : Hp} {v : V} {qs : List Rat} (h : IsL (IsMd C) H v (qs.map some)) : IsShares C H v qs := by
  obtain ⟨p, vs, e, h, a⟩ := h
  refine ⟨p, vs, e, h, ⟨by rw [a.1, List.length_map], fun i v q hv hq => ?_⟩⟩
  exact a.2 i v (some q) hv (by rw [List.getElem?_map, hq]; rfl)
theorem itb_of {n : Nat} {qs : List Rat} (b : ∀ q ∈ qs, Bd n q) (l : qs.length ≤ 900) (hn : n ≤ 9000) : ItB 9000 900 (qs.map some) := ⟨by rw [List.length_map]; exact l, fun q hq => by
  obtain ⟨q', hq', e⟩ := List.mem_map.mp hq
  cases e
  exact (b q hq').mono hn⟩
theorem heap_bd {l : List Rat} (h : HeapOk l) : ∀ q ∈ l, Bd 21 q := fun q hq => by
  obtain ⟨S, s0, s1, sd⟩ := h.den
  exact bd_frac (h.nn q hq) (heap_le1 h hq) s0 (by omega) (sd q hq)
theorem wgh_of {qs rs : List Rat} (h1 : ∀ q ∈ qs, Bd 43 q) (h2 : ∀ q ∈ rs, Bd 21 q) (l1 : qs.length ≤ 12) (l2 : rs.length ≤ 12) : Wgh qs rs 600 300 :=
  ⟨lcm_len (n := 43) (N := 12) (fun q hq => (h1 q hq).den) l1 (by decide), lcm_len (n := 21) (N := 12) (fun q hq => (h2 q hq).den) l2 (by decide), by decide, by decide, by decide, fun q hq => (h1 q hq).mono (by decide), fun q hq => (h2 q hq).mono (by decide), by omega, by omega⟩
theorem planN_of {pl ql : List Rat} {Tb : Nat → Nat → Rat} (ok : PlanOk pl.length ql.length (at0 pl) (at0 ql) Tb) (k12 : ql.length ≤ 12) : ∃ S, PlanN (tblOf pl.length ql.length Tb) S := by
  obtain ⟨S, s0, s1, hS⟩ := ok.den
  refine ⟨S, s0, s1, fun qs hq => ?_⟩
  unfold tblOf at hq
  obtain ⟨x, hx, rfl⟩ := List.mem_map.mp hq
  refine ⟨by simpa using k12, fun q hq => ?_⟩
  obtain ⟨y, hy, rfl⟩ := List.mem_map.mp hq
  have hx : x < pl.length := by simpa using hx
  have hy : y < ql.length := by simpa using hy
  have h1 := hS x y hx hy
  have h0 := (ok.t0 x y hx hy).1
  refine ⟨h1.2, ?_⟩
  have n0 : 0 ≤ (Tb x y).num := Rat.num_nonneg.mpr h0
  have n1 : (Tb x y).num ≤ ((Tb x y).den : Int) := by
    have := (Rat.le_iff (Tb x y) 1).mp h1.1
    simpa using this
  omega
theorem wgh_plan {css pss : List (List Rat)} {k b S : Nat} (C : CostN css k b) (N : PlanN pss S) (k12 : k ≤ 12) (c12 : css.length ≤ 12) (p12 : pss.length ≤ 12) : Wgh css.flatten pss.flatten 600 3000 := by
  have l1 : css.flatten.length ≤ 144 := Nat.le_trans (flat_len (k := 12) fun qs h => by rw [(C.row qs h).1]; exact k12) (Nat.mul_le_mul_right 12 c12)
  have l2 : pss.flatten.length ≤ 144 := Nat.le_trans (flat_len (k := 12) fun qs h => (N.row qs h).1) (Nat.mul_le_mul_right 12 p12)
  have n1 : ∀ q ∈ css.flatten, Nice b 1000000000 q := fun q hq => by
    obtain ⟨r, hr, hq⟩ := mem_rows hq
    exact (C.row r hr).2 q hq
  have n2 : ∀ q ∈ pss.flatten, Nice S 1 q := fun q hq => by
    obtain ⟨r, hr, hq⟩ := mem_rows hq
    exact (N.row r hr).2 q hq
  have C0 := C.b0
  have C1 := C.b1
  have N0 := N.s0
  have N1 := N.s1
  refine ⟨lcm_len (n := 4) (N := 144) (fun q hq => ?_) l1 (by decide), lcm_len (n := 20) (N := 144) (fun q hq => ?_) l2 (by decide), by decide, by decide, by decide, fun q hq => ?_, fun q hq => ?_, by omega, by omega⟩
  · have := Nat.le_of_dvd C0 (n1 q hq).den
    omega
  · have := Nat.le_of_dvd N0 (n2 q hq).den
    omega
  · exact ((n1 q hq).bd (n := 40) C0 (by omega) (by omega)).mono (by decide)
  · exact ((n2 q hq).bd (n := 40) N0 (by omega) (by omega)).mono (by decide)
theorem dot_plan {css pss : List (List Rat)} {k b S : Nat} (C : CostN css k b) (N : PlanN pss S) (c12 : css.length ≤ 12) (lcp : css.length = pss.length) (lrow : ∀ (i : Nat) c p, css[i]? = some c → pss[i]? = some p → c.length = p.length) : Bd 62 (dot css.flatten pss.flatten) := by
  rw [dot_rows lcp lrow]
  have : ∀ z ∈ List.zipWith dot css pss, Nice (b * S) 12000000000 z := fun z hz => by
    obtain ⟨j, hj, e⟩ := List.mem_iff_getElem.mp hz
    rw [List.getElem_zipWith] at e
    rw [← e]
    exact dot_nice C N (List.getElem_mem _) (List.getElem_mem _)
  refine bS_bd C.b0 C.b1 N.s0 N.s1 ?_ (Nice.rsum (Nat.mul_pos C.b0 N.s0) this)
  have l : (List.zipWith dot css pss).length ≤ 12 := by
    rw [List.length_zipWith]
    omega
  exact Nat.mul_le_mul_left 12000000000 l
def spSummed : Sp := fun vs H Q _ => ∃ (a ph pp : Addr) (v f g x y : V) (css : List (List Rat)) (pl ql hs ts : List Rat) (b n : Nat), vs = [.ref a, v, .ref ph, .ref pp] ∧ WellAt H a (n + 150) ∧ IsTbl IsPrs (hid a H) v css ∧ CostN css ql.length b ∧ css.length = pl.length ∧
  hid a H ph = some (.tup [f, g]) ∧ IsPrs (hid a H) f pl ∧ IsPrs (hid a H) g ql ∧ HeapOk pl ∧ HeapOk ql ∧ pl.length ≤ 12 ∧ ql.length ≤ 12 ∧ hid a H pp = some (.tup [x, y]) ∧ IsPrs (hid a H) x hs ∧ IsPrs (hid a H) y ts ∧ hs.length = pl.length ∧ ts.length = ql.length ∧ (∀ q ∈ hs, Bd 43 q) ∧ (∀ q ∈ ts, Bd 43 q) ∧
  ∀ H', Same (hid a H) (hid a H') → WellAt H' a n → Q (.bl true) H'
theorem prs_bd9 {n : Nat} {qs : List Rat} (b : ∀ q ∈ qs, Bd n q) (hn : n ≤ 9000) : ∀ q ∈ qs, Bd 9000 q := fun q hq => (b q hq).mono hn
theorem ok_l_summed (T : Txt K mg) : FnOk P w K mg base CX0 6 T.f_l_summed T.d_l_summed ["_law_well_here", "_law_costs_here", "_law_heaps", "_law_prices_here"] spSummed := by
  refine T.F_l_summed.ok sc_l_summed (fun vs H Q E h => ?_) (fun cdv A outer s H vs Q E hr h => ?_)
  · obtain ⟨a, ph, pp, v, f, g, x, y, css, pl, ql, hs, ts, b, n, rfl, _⟩ := h
    rfl
  · obtain ⟨a, ph, pp, v, f, g, x, y, css, pl, ql, hs, ts, b, n, rfl, hw, hv, C, lcp, hph, hf, hg0, okp, okq, m12, k12, hpp, hx, hy, lhs, lts, bh, bt, q⟩ := h
    refine ⟨_, (pss_cons (ps_set (i := 4) sc_l_summed.nd rfl (.inl rfl) (pe_call (ok_l_total T) (hr.mono (by decide)) (by rfl) T.g_l_total T.F_l_total.kp T.b_l_total .nil pass0 (pa_cons (pe_lc (own := [("_law_price", 8), ("_law_share", 9)]) (g := (gTup K 2 (gCons (gName 8) (gCons (gName 9) gNil)))) (tt := tYes) (by rfl) sc_l_summed.nd (pi_zip (by rfl) T.z_zip (pa_cons (pe_ix ix_tup (pv 3) pe_int (fun _ _ => rfl)) (pa_cons (pe_ix ix_tup (pv 2) pe_int (fun _ _ => rfl)) pa_nil))) (blkOk_by (own := [("_law_price", 8), ("_law_share", 9)]) (N := ["_law_well_here", "_law_costs_here", "_law_heaps", "_law_prices_here", "_law_gained", "_law_spent", "_law_found", "_law_plan", "_law_price", "_law_share"]) (sc := defScope s_l_summed) (by decide +kernel)) (fun _ _ _ _ _ => by exact (pg_tup (by rfl) (pgs_cons (pg_name (i := 8) sc_l_summed.nd rfl (.inl rfl)) (pgs_cons (pg_name (i := 9) sc_l_summed.nd rfl (.inl rfl)) pgs_nil)))) (fun _ _ _ _ _ => by exact pts_nil) (fun _ _ _ _ _ => by exact (pe_call (ok_l_by T) (hr.mono (by decide)) (by rfl) T.g_l_by T.F_l_by.kp T.b_l_by .nil pass0 (pa_cons (pv 8) (pa_cons (pv 9) pa_nil))))) pa_nil)))
 (pss_cons (ps_set (i := 5) sc_l_summed.nd rfl (.inl rfl) (pe_call (ok_l_total T) (hr.mono (by decide)) (by rfl) T.g_l_total T.F_l_total.kp T.b_l_total .nil pass0 (pa_cons (pe_lc (own := [("_law_price", 8), ("_law_share", 9)]) (g := (gTup K 2 (gCons (gName 8) (gCons (gName 9) gNil)))) (tt := tYes) (by rfl) sc_l_summed.nd (pi_zip (by rfl) T.z_zip (pa_cons (pe_ix ix_tup (pv 3) pe_int (fun _ _ => rfl)) (pa_cons (pe_ix ix_tup (pv 2) pe_int (fun _ _ => rfl)) pa_nil))) (blkOk_by (own := [("_law_price", 8), ("_law_share", 9)]) (N := ["_law_well_here", "_law_costs_here", "_law_heaps", "_law_prices_here", "_law_gained", "_law_spent", "_law_found", "_law_plan", "_law_price", "_law_share"]) (sc := defScope s_l_summed) (by decide +kernel)) (fun _ _ _ _ _ => by exact (pg_tup (by rfl) (pgs_cons (pg_name (i := 8) sc_l_summed.nd rfl (.inl rfl)) (pgs_cons (pg_name (i := 9) sc_l_summed.nd rfl (.inl rfl)) pgs_nil)))) (fun _ _ _ _ _ => by exact pts_nil) (fun _ _ _ _ _ => by exact (pe_call (ok_l_by T) (hr.mono (by decide)) (by rfl) T.g_l_by T.F_l_by.kp T.b_l_by .nil pass0 (pa_cons (pv 8) (pa_cons (pv 9) pa_nil))))) pa_nil)))
 (pss_cons (ps_set (i := 6) sc_l_summed.nd rfl (.inl rfl) (pe_call (ok_p_brought T) (hr.mono (by decide)) (by rfl) T.g_p_brought T.F_p_brought.kp T.b_p_brought .nil pass0 (pa_cons (pe_call (ok_l_made T) (hr.mono (by decide)) (by rfl) T.g_l_made T.F_l_made.kp T.b_l_made .nil pass0 (pa_cons (pv 3) pa_nil)) (pa_cons (pe_call (ok_l_shares T) (hr.mono (by decide)) (by rfl) T.g_l_shares T.F_l_shares.kp T.b_l_shares .nil pass0 (pa_cons (pe_ix ix_tup (pv 2) pe_int (fun _ _ => rfl)) pa_nil)) (pa_cons (pe_call (ok_l_shares T) (hr.mono (by decide)) (by rfl) T.g_l_shares T.F_l_shares.kp T.b_l_shares .nil pass0 (pa_cons (pe_ix ix_tup (pv 2) pe_int (fun _ _ => rfl)) pa_nil)) pa_nil)))))
 (pss_cons (ps_if (pt_cmpR (op_neD hr.units) (pe_call (ok_l_pair T) (hr.mono (by decide)) (by rfl) T.g_l_pair T.F_l_pair.kp T.b_l_pair .nil pass0 (pa_cons (pv 6) pa_nil)) (pe_call (ok_l_less T) (hr.mono (by decide)) (by rfl) T.g_l_less T.F_l_less.kp T.b_l_less .nil pass0 (pa_cons (pv 4) (pa_cons (pv 5) pa_nil))) (nomark _))
  (pss_one (ps_ret pe_bl))
  pss_nil)
 (pss_cons (ps_set (i := 7) sc_l_summed.nd rfl (.inl rfl) (pe_call (ok_l_filled T) (hr.mono (by decide)) (by rfl) T.g_l_filled T.F_l_filled.kp T.b_l_filled .nil pass0 (pa_cons (pv 0) (pa_cons (pe_ix ix_tup (pv 2) pe_int (fun _ _ => rfl)) (pa_cons (pe_ix ix_tup (pv 2) pe_int (fun _ _ => rfl)) pa_nil)))))
 (pss_one (ps_ret (pe_cmpR (op_eqD hr.units) (pe_call (ok_l_pair T) (hr.mono (by decide)) (by rfl) T.g_l_pair T.F_l_pair.kp T.b_l_pair .nil pass0 (pa_cons (pe_call (ok_p_cost_of T) (hr.mono (by decide)) (by rfl) T.g_p_cost_of T.F_p_cost_of.kp T.b_p_cost_of .nil pass0 (pa_cons (pe_call (ok_l_rows T) (hr.mono (by decide)) (by rfl) T.g_l_rows T.F_l_rows.kp T.b_l_rows .nil pass0 (pa_cons (pv 1) pa_nil)) (pa_cons (pe_call (ok_l_rows T) (hr.mono (by decide)) (by rfl) T.g_l_rows T.F_l_rows.kp T.b_l_rows .nil pass0 (pa_cons (pv 7) pa_nil)) pa_nil))) pa_nil)) (pe_call (ok_l_cost T) (hr.mono (by decide)) (by rfl) T.g_l_cost T.F_l_cost.kp T.b_l_cost .nil pass0 (pa_cons (pv 1) (pa_cons (pv 7) pa_nil))) (nomark _))))))))), ?_⟩
    obtain ⟨px, xvs, rfl, ex, ax⟩ := id hx
    obtain ⟨py, yvs, rfl, ey, ay⟩ := id hy
    obtain ⟨pf, fvs, rfl, ef, af⟩ := id hf
    obtain ⟨pg, gvs, rfl, eg, ag⟩ := id hg0
    have bp := heap_bd okp
    have bq := heap_bd okq
    have sg0 : Same (hid a H) H := hid_same
    -- what is gained
    refine ⟨_, rfl, pp, _, _, _, rfl, rfl, .inl (.inl (sg0 _ _ hpp)), atI_nat (j := 0) rfl, _, rfl, ph, _, _, _, rfl, rfl, .inl (.inl (sg0 _ _ hph)), atI_nat (j := 0) rfl, px, pf, xvs, fvs, rfl, SqL.of (sg0 _ _ ex), SqL.of (sg0 _ _ ef), fun D1 nD => lc_allW (walk_zip (K := K) (a := px) (b := pf) (xs := xvs) (ys := fvs) (n := (List.zipWith (· * ·) hs pl).length) (by rw [List.length_zipWith, ax.1, af.1])) (fun i y G => ∃ z, (List.zipWith (· * ·) hs pl)[i]? = some z ∧ IsPr G y z) (fun _ _ _ _ s h => h.elim fun z f => ⟨z, f.1, f.2.mono s⟩) nD (fun H' s => ⟨(sg0.trans s).seq (SqL.of ex), (sg0.trans s).seq (SqL.of ef)⟩) (by rw [List.length_zipWith]; omega) (fun j x H3 H4 kk hj s3 eD y hk => ?_) (fun H3 ys s3 e3 l3 r3 => ?_)⟩
    · obtain ⟨T2, x1, x2, rfl, nT2, rfl, hx1, hx2⟩ := y
      have hx1 : xvs[j]? = some x1 := hx1
      have hx2 : fvs[j]? = some x2 := hx2
      obtain ⟨z1, hz1, g1⟩ := ax.at hx1
      obtain ⟨z2, hz2, g2⟩ := af.at hx2
      have sT2 := same_upd (o := .tup [x1, x2]) nT2
      have sB := sg0.trans (s3.trans (hid_same.trans sT2))
      have b1 : Bd 4000 z1 := (bh z1 (List.mem_of_getElem? hz1)).mono (by decide)
      have b2 : Bd 4000 z2 := (bp z2 (List.mem_of_getElem? hz2)).mono (by decide)
      refine ⟨T2, _, rfl, .inl (.inl upd_same), rfl, _, _, rfl, _, _, rfl, rfl, wipe2 (by decide) (by decide), ?_⟩
      refine ⟨_, rfl, _, rfl, spTwo.mk (E := E0) (g1.mono sB) (g2.mono sB) b1 b2 fun H5 r5 s5 h5 => hk _ _ (sT2.trans s5) ⟨z1 * z2, ?_, IsPr.hidL ?_ h5⟩⟩
      · rw [List.getElem?_zipWith, hz1, hz2]
      · obtain ⟨ys', e'⟩ := eD
        exact ⟨ys', s5 _ _ (sT2 _ _ e')⟩
    refine ⟨_, List.zipWith (· * ·) hs pl, 64, rfl, ⟨D1, ys, rfl, e3, .of_ix l3 fun j y hy => ?_⟩, fun q hq => prod_bd bh bp q hq, ?_, by decide, fun HG rg s5 hg => ?_⟩
    · obtain ⟨z, hz, g⟩ := r3 j y hy
      exact ⟨z, hz, g.mono hid_same⟩
    · have : (List.zipWith (· * ·) hs pl).length ≤ 12 := by rw [List.length_zipWith]; omega
      omega
    have t1 := s3.trans (hid_same.trans s5)
    have sg1 := sg0.trans t1
    clear s3 e3 l3 r3 s5 nD
    -- what is spent
    refine ⟨_, rfl, pp, _, _, _, rfl, rfl, .inl (.inl (sg1 _ _ hpp)), atI_nat (j := 1) rfl, _, rfl, ph, _, _, _, rfl, rfl, .inl (.inl (sg1 _ _ hph)), atI_nat (j := 1) rfl, py, pg, yvs, gvs, rfl, SqL.of (sg1 _ _ ey), SqL.of (sg1 _ _ eg), fun D2 nD => lc_allW (walk_zip (K := K) (a := py) (b := pg) (xs := yvs) (ys := gvs) (n := (List.zipWith (· * ·) ts ql).length) (by rw [List.length_zipWith, ay.1, ag.1])) (fun i y G => ∃ z, (List.zipWith (· * ·) ts ql)[i]? = some z ∧ IsPr G y z) (fun _ _ _ _ s h => h.elim fun z f => ⟨z, f.1, f.2.mono s⟩) nD (fun H' s => ⟨(sg1.trans s).seq (SqL.of ey), (sg1.trans s).seq (SqL.of eg)⟩) (by rw [List.length_zipWith]; omega) (fun j x H3 H4 kk hj s3 eD y hk => ?_) (fun H3 ys s3 e3 l3 r3 => ?_)⟩
    · obtain ⟨T2, x1, x2, rfl, nT2, rfl, hx1, hx2⟩ := y
      have hx1 : yvs[j]? = some x1 := hx1
      have hx2 : gvs[j]? = some x2 := hx2
      obtain ⟨z1, hz1, g1⟩ := ay.at hx1
      obtain ⟨z2, hz2, g2⟩ := ag.at hx2
      have sT2 := same_upd (o := .tup [x1, x2]) nT2
      have sB := sg1.trans (s3.trans (hid_same.trans sT2))
      have b1 : Bd 4000 z1 := (bt z1 (List.mem_of_getElem? hz1)).mono (by decide)
      have b2 : Bd 4000 z2 := (bq z2 (List.mem_of_getElem? hz2)).mono (by decide)
      refine ⟨T2, _, rfl, .inl (.inl upd_same), rfl, _, _, rfl, _, _, rfl, rfl, wipe2 (by decide) (by decide), ?_⟩
      refine ⟨_, rfl, _, rfl, spTwo.mk (E := E0) (g1.mono sB) (g2.mono sB) b1 b2 fun H5 r5 s5 h5 => hk _ _ (sT2.trans s5) ⟨z1 * z2, ?_, IsPr.hidL ?_ h5⟩⟩
      · rw [List.getElem?_zipWith, hz1, hz2]
      · obtain ⟨ys', e'⟩ := eD
        exact ⟨ys', s5 _ _ (sT2 _ _ e')⟩
    refine ⟨_, List.zipWith (· * ·) ts ql, 64, rfl, ⟨D2, ys, rfl, e3, .of_ix l3 fun j y hy => ?_⟩, fun q hq => prod_bd bt bq q hq, ?_, by decide, fun HS rs s5 hsp => ?_⟩
    · obtain ⟨z, hz, g⟩ := r3 j y hy
      exact ⟨z, hz, g.mono hid_same⟩
    · have : (List.zipWith (· * ·) ts ql).length ≤ 12 := by rw [List.length_zipWith]; omega
      omega
    have t2 := s3.trans (hid_same.trans s5)
    have sg2 := sg1.trans t2
    clear s3 e3 l3 r3 s5 nD
    -- what brought tells
    refine ⟨_, rfl, pp, _, _, rfl, ⟨_, _, sg2 _ _ hpp, prow_of (hx.mono sg2), prow_of (hy.mono sg2)⟩, itb_of bh (by omega) (by decide), itb_of bt (by omega) (by decide), fun HM rm x' y' sm em mx my => ?_⟩
    have sg3 := sg2.trans sm
    refine ⟨_, rfl, ph, _, _, _, rfl, rfl, .inl (.inl (sg3 _ _ hph)), atI_nat (j := 0) rfl, _, pl, rfl, hf.mono sg3, prs_bd9 bp (by decide), by omega, fun H4 r4 _ s4 h4 => ?_⟩
    have sg4 := sg3.trans s4
    refine ⟨_, rfl, ph, _, _, _, rfl, rfl, .inl (.inl (sg4 _ _ hph)), atI_nat (j := 1) rfl, _, ql, rfl, hg0.mono sg4, prs_bd9 bq (by decide), by omega, fun H5 r5 _ s5 h5 => ?_⟩
    have d1 := dot_bd bh bp (by omega)
    have d2 := dot_bd bt bq (by omega)
    refine ⟨rm, x', y', _, _, hs, ts, pl, ql, 600, 300, 600, 300, rfl, s5 _ _ (s4 _ _ em), ((shares_of mx).mono s4).mono s5, ((shares_of my).mono s4).mono s5, h4.mono s5, h5, wgh_of bh bp (by omega) (by omega), wgh_of bt bq (by omega) (by omega), d1.mono (by decide), d2.mono (by decide), fun H6 r6 s6 h6 => ?_⟩
    have sA := sm.trans (s4.trans (s5.trans s6))
    have b6 : Bd 2001 (dot hs pl - dot ts ql) := d1.sub d2
    refine ⟨_, rfl, _, _, rfl, h6, b6.mono (by decide), fun H7 r7 s7 h7 => ?_⟩
    have hgg : IsPr HS rg (dot hs pl) := hg.mono t2
    refine ⟨_, rfl, _, rfl, spTwo.mk (E := E0) (hgg.mono (sA.trans s7)) ((show IsPr HS rs (dot ts ql) from hsp).mono (sA.trans s7)) (d1.mono (by decide)) (d2.mono (by decide)) fun H8 r8 s8 h8 => ?_⟩
    have h8 : IsPr H8 r8 (dot hs pl - dot ts ql) := h8
    refine ⟨_, _, (h7.mono s8).dp, IsTup2.dp h8, rfl, rfl, _, rfl, ?_⟩
    have e8 : PyData.eqv (.tuple [.int (dot hs pl - dot ts ql).num, .int ((dot hs pl - dot ts ql).den : Int)]) (.tuple [.int (dot hs pl - dot ts ql).num, .int ((dot hs pl - dot ts ql).den : Int)]) = true := by
      rw [eqv_tup2]
      simp
    rw [e8]
    refine iteF ?_
    -- a plan
    have sgB := sg2.trans (sA.trans (s7.trans s8))
    have tB : Same H H8 := t1.trans (t2.trans (sA.trans (s7.trans s8)))
    have sB : Same (hid a H) (hid a H8) := hid_mono tB
    have wB : WellAt H8 a (n + 150) := hw.same tB
    refine ⟨_, rfl, _, rfl, ph, _, _, _, rfl, rfl, .inl (.inl (sgB _ _ hph)), atI_nat (j := 0) rfl, _, rfl, ph, _, _, _, rfl, rfl, .inl (.inl (sgB _ _ hph)), atI_nat (j := 1) rfl, a, _, _, pl, ql, n, rfl, wB, hf.mono sB, hg0.mono sB, okp, okq, m12, k12, fun H9 p9 Tb _ s9 w9 h9 ok => ?_⟩
    obtain ⟨S, N⟩ := planN_of ok k12
    have sC : Same (hid a H) (hid a H9) := sB.trans s9
    have hv9 : IsTbl IsPrs H9 v css := IsTbl.mono (fun _ _ _ _ s h => h.mono s) hv (sC.trans hid_same)
    have h9' : IsTbl IsPrs H9 (.ref p9) (tblOf pl.length ql.length Tb) := IsTbl.mono (fun _ _ _ _ s h => h.mono s) h9 hid_same
    have rowC : ∀ qs ∈ css, qs.length ≤ 900 ∧ ∀ q ∈ qs, Bd 9000 q := fun qs hq => ⟨by rw [(C.row qs hq).1]; omega, fun q h => (((C.row qs hq).2 q h).bd (n := 40) C.b0 (by have := C.b1; omega) (by have := C.b1; omega)).mono (by decide)⟩
    have rowP : ∀ qs ∈ tblOf pl.length ql.length Tb, qs.length ≤ 900 ∧ ∀ q ∈ qs, Bd 9000 q := fun qs hq => ⟨by have := (N.row qs hq).1; omega, fun q h => (((N.row qs hq).2 q h).bd (n := 40) N.s0 (by have := N.s1; omega) (by have := N.s1; omega)).mono (by decide)⟩
    have lt : (tblOf pl.length ql.length Tb).length = pl.length := by simp [tblOf]
    have lrow : ∀ (i : Nat) c p, css[i]? = some c → (tblOf pl.length ql.length Tb)[i]? = some p → c.length = p.length := fun i c p hc hp => by
      rw [(C.row c (List.mem_of_getElem? hc)).1]
      have := List.mem_of_getElem? hp
      unfold tblOf at this
      obtain ⟨x, _, rfl⟩ := List.mem_map.mp this
      simp
    have bD := dot_plan C N (by omega) (by omega) lrow
    refine ⟨_, rfl, _, css, rfl, hv9, rowC, by omega, fun H10 p10 _ s10 h10 => ?_⟩
    refine ⟨_, rfl, _, _, rfl, IsTbl.mono (fun _ _ _ _ s h => h.mono s) h9' s10, rowP, by omega, fun H11 p11 _ s11 h11 => ?_⟩
    refine ⟨_, _, css, _, 600, 3000, rfl, tbl_mono h10 s11, h11, ⟨by omega, fun qs h => by rw [(C.row qs h).1]; exact k12⟩, ⟨by omega, fun qs h => (N.row qs h).1⟩, wgh_plan C N k12 (by omega) (by omega), fun H12 r12 s12 h12 => ?_⟩
    refine ⟨_, _, rfl, h12, bD.mono (by decide), fun H13 r13 s13 h13 => ?_⟩
    have sD := s10.trans (s11.trans (s12.trans s13))
    refine ⟨_, rfl, _, rfl, _, _, css, _, _, b, S, rfl, IsTbl.mono (fun _ _ _ _ s h => h.mono s) hv9 sD, IsTbl.mono (fun _ _ _ _ s h => h.mono s) h9' sD, C, N, by omega, by omega, lrow, fun H14 r14 s14 h14 => ?_⟩
    refine ⟨_, _, (h13.mono s14).dp, IsTup2.dp h14, rfl, rfl, ?_⟩
    rw [eqv_tup2]
    simp only [beq_self_eq_true, Bool.and_self]
    exact q H14 (sC.trans (hid_mono (sD.trans s14))) (w9.same (sD.trans s14))
end

end Fb

namespace Fb
open PySem PySem.Spec PyProof.Rows L2
section
variable {P : Program} {w : World} {K : PySem.W.Frag} {mg : Str → Option Value} {base : Heap}
def spLaw (K : PySem.W.Frag) : Sp := fun vs H Q _ => ∃ (a : Addr) (ns : List Int), vs = [.ref a] ∧ SqL K H a (ns.map V.int) ∧ ns.length ≤ 63 ∧ ∀ H', Q (.bl true) H'
theorem eW {H : Hp} {a : Addr} {n : Nat} (w : WellAt H a n) : ∃ ys, H a = some (.lst ys) := by
  obtain ⟨w0, w1, w2, e, _⟩ := w
  exact ⟨_, e⟩
theorem tbl_hid {C : Addr} {H : Hp} {a p : Addr} {n : Nat} {css : List (List Rat)} (w : WellAt H a n) (hp : p ≠ a) (hne : ∀ qs ∈ css, 0 < qs.length) (h : IsTbl (IsShares C) H (.ref p) css) : IsTbl (IsShares C) (hid a H) (.ref p) css := by
  obtain ⟨p', vs, e, h, r⟩ := h
  cases e
  refine ⟨p, vs, rfl, by rw [hid_ne hp]; exact h, ⟨r.1, fun i v qs hv hq => ?_⟩⟩
  obtain ⟨pr, rvs, rfl, er, ar⟩ := r.2 i v qs hv hq
  have l := hne qs (List.mem_of_getElem? hq)
  have hpr : pr ≠ a := fun z => by
    obtain ⟨w0, w1, w2, ew, _⟩ := w
    rw [z, ew] at er
    cases er
    have hl : (0 : Nat) < qs.length := l
    obtain ⟨px, dx, ex, _⟩ := ar.2 0 (.int w0) qs[0] rfl (List.getElem?_eq_getElem hl)
    cases ex
  exact ⟨pr, rvs, rfl, by rw [hid_ne hpr]; exact er, ar.imp fun _ _ h => h.hid w⟩
theorem dtbl_of {C : Addr} {H : Hp} {v u : V} {css : List (List Rat)} (h : IsTbl (IsShares C) H v css) (h' : IsTbl (IsShares C) H u css) : DListB (DListB (DSh C)) v u true H := by
  obtain ⟨p, vs, rfl, e, a⟩ := h
  obtain ⟨p', vs', rfl, e', a'⟩ := h'
  refine ⟨p, p', vs, vs', rfl, rfl, e, e', by rw [a.1, a'.1], fun _ => true, fun i x y hx hy => ?_, by simp⟩
  obtain ⟨z, hz, r⟩ := a.at hx
  obtain ⟨z', hz', r'⟩ := a'.at hy
  rw [hz] at hz'
  cases hz'
  have := dlist_of r r' rfl
  rwa [decide_eq_true rfl] at this
theorem costB_of {css : List (List Rat)} {k b : Nat} (C : CostN css k b) (c0 : 0 < css.length) (c12 : css.length ≤ 12) (k0 : 0 < k) (k12 : k ≤ 12) : CostB css k :=
  ⟨c0, c12, k0, k12, fun qs h => ⟨(C.row qs h).1, fun q hq => ((C.row qs h).2 q hq).bd C.b0 (by have := C.b1; omega) (by have := C.b1; omega)⟩⟩
theorem rats_some (qs : List Rat) : ratsOf (some (qs.map some)) = qs := by simp [ratsOf, Function.comp_def]
theorem prB_true {hs ts : List Rat} {css : List (List Rat)} {k b : Nat} (C : CostN css k b) (c0 : 0 < css.length) (l1 : hs.length = css.length) (l2 : ts.length = k) (f : fits hs ts css = true) : prB (some (hs.map some)) (some (ts.map some)) css = true := by
  have e0 : (rowAt css 0).length = k := by
    rw [rowAt_of (List.getElem?_eq_getElem c0)]
    exact (C.row _ (List.getElem_mem c0)).1
  have sh : ∀ {qs : List Rat} {m : Nat}, qs.length = m → onRow shOk m (some (qs.map some)) = true := fun {qs m} h => by
    show (decide ((qs.map some).length = m) && (qs.map some).all Option.isSome) = true
    rw [List.length_map, decide_eq_true h, Bool.true_and, List.all_eq_true]
    intro o ho
    obtain ⟨q, _, rfl⟩ := List.mem_map.mp ho
    rfl
  unfold prB
  rw [sh l1, sh (l2.trans e0.symm), rats_some, rats_some, f]
  rfl
theorem rowB_of {n l : Nat} {its : List (Option Rat)} (h : ItB n l its) (hn : n ≤ 60) (hl : l ≤ 900) : RowB 60 900 (some its) := fun i e => by
  cases e
  exact ⟨Nat.le_trans h.1 hl, fun q hq => (h.2 q hq).mono hn⟩
theorem niB_of {S M : Nat} {qs : List Rat} (h : ∀ q ∈ qs, Nice S M q) {l : Nat} (hl : qs.length ≤ l) : NiB S M l (qs.map some) := ⟨by rw [List.length_map]; exact hl, fun q hq => by
  obtain ⟨q', hq', e⟩ := List.mem_map.mp hq
  cases e
  exact h q hq'⟩
set_option maxHeartbeats 1000000 in
theorem ok_law (T : Txt K mg) : FnOk P w K mg base CX0 14 T.f_law T.d_law ["_law_script"] (spLaw K) := by
  refine T.F_law.ok sc_law (fun vs H Q E h => ?_) (fun cdv A outer s H vs Q E hr h => ?_)
  · obtain ⟨a, ns, rfl, _⟩ := h
    rfl
  · obtain ⟨a, ns, rfl, hS, hlen, q⟩ := h
    refine ⟨_, (pss_cons (ps_for PassesOwn.never rfl (pi_list (pe_op op_cat (pe_slice sl_list (pv 0) po_none (po_some pe_int)) (pe_lst (pa_cons pe_int (pa_cons pe_int pa_nil))))) (pg_name (i := 1) sc_law.nd rfl (.inl rfl))
  (pss_cons (ps_set (i := 2) sc_law.nd rfl (.inl rfl) (pe_call (ok_l_well T) (hr.mono (by decide)) (by rfl) T.g_l_well T.F_l_well.kp T.b_l_well .nil pass0 (pa_cons (pv 1) pa_nil)))
 (pss_cons (ps_set (i := 3) sc_law.nd rfl (.inl rfl) (pe_call (ok_l_one T) (hr.mono (by decide)) (by rfl) T.g_l_one T.F_l_one.kp T.b_l_one .nil pass0 (pa_cons (pv 2) (pa_cons (pe_lst (pa_cons pe_int (pa_cons pe_int (pa_cons pe_int (pa_cons pe_int pa_nil))))) pa_nil))))
 (pss_cons (ps_par (i := 4) (j := 5) (by rfl) sc_law.nd rfl rfl (by decide) rfl rfl (pa_cons (pe_op op_add pe_int (pe_call (ok_l_draw T) (hr.mono (by decide)) (by rfl) T.g_l_draw T.F_l_draw.kp T.b_l_draw .nil pass0 (pa_cons (pv 2) (pa_cons (pv 3) pa_nil)))) (pa_cons (pe_op op_add pe_int (pe_call (ok_l_draw T) (hr.mono (by decide)) (by rfl) T.g_l_draw T.F_l_draw.kp T.b_l_draw .nil pass0 (pa_cons (pv 2) (pa_cons (pv 3) pa_nil)))) pa_nil)) (by rfl))
 (pss_cons (ps_set (i := 6) sc_law.nd rfl (.inl rfl) (pe_call (ok_l_costs T) (hr.mono (by decide)) (by rfl) T.g_l_costs T.F_l_costs.kp T.b_l_costs .nil pass0 (pa_cons (pv 2) (pa_cons (pv 4) (pa_cons (pv 5) pa_nil)))))
 (pss_cons (ps_set (i := 7) sc_law.nd rfl (.inl rfl) (pe_tup (pa_cons (pe_call (ok_l_heap T) (hr.mono (by decide)) (by rfl) T.g_l_heap T.F_l_heap.kp T.b_l_heap .nil pass0 (pa_cons (pv 2) (pa_cons (pv 4) pa_nil))) (pa_cons (pe_call (ok_l_heap T) (hr.mono (by decide)) (by rfl) T.g_l_heap T.F_l_heap.kp T.b_l_heap .nil pass0 (pa_cons (pv 2) (pa_cons (pv 5) pa_nil))) pa_nil))))
 (pss_cons (ps_set (i := 8) sc_law.nd rfl (.inl rfl) (pe_call (ok_l_prices T) (hr.mono (by decide)) (by rfl) T.g_l_prices T.F_l_prices.kp T.b_l_prices .nil pass0 (pa_cons (pv 2) (pa_cons (pv 6) pa_nil))))
 (pss_cons (ps_set (i := 9) sc_law.nd rfl (.inl rfl) (pe_call (ok_l_rows T) (hr.mono (by decide)) (by rfl) T.g_l_rows T.F_l_rows.kp T.b_l_rows .nil pass0 (pa_cons (pv 6) pa_nil)))
 (pss_cons (ps_if (PW.pt (pw_or (pt_cmpR op_notBl (pe_call (ok_p_are_prices T) (hr.mono (by decide)) (by rfl) T.g_p_are_prices T.F_p_are_prices.kp T.b_p_are_prices .nil pass0 (pa_cons (pe_call (ok_l_made T) (hr.mono (by decide)) (by rfl) T.g_l_made T.F_l_made.kp T.b_l_made .nil pass0 (pa_cons (pv 8) pa_nil)) (pa_cons (pv 9) pa_nil))) pe_bl (nomark _)) (pw_or1 (pt_not (pt_val (pe_call (ok_l_summed T) (hr.mono (by decide)) (by rfl) T.g_l_summed T.F_l_summed.kp T.b_l_summed .nil pass0 (pa_cons (pv 2) (pa_cons (pv 6) (pa_cons (pv 7) (pa_cons (pv 8) pa_nil))))))))))
  (pss_one (ps_ret pe_bl))
  pss_nil)
 (pss_cons (ps_for PassesOwn.never rfl (pi_range1 (by rfl) T.z_range (pa_cons pe_int pa_nil)) (pg_name (i := 10) sc_law.nd rfl (.inl rfl))
  (pss_cons (ps_set (i := 11) sc_law.nd rfl (.inl rfl) (pv 8))
 (pss_cons (ps_for PassesOwn.never rfl (pi_range1 (by rfl) T.z_range (pa_cons (pe_op op_add pe_int (pe_call (ok_l_draw T) (hr.mono (by decide)) (by rfl) T.g_l_draw T.F_l_draw.kp T.b_l_draw .nil pass0 (pa_cons (pv 2) (pa_cons pe_int pa_nil)))) pa_nil)) (pg_name (i := 12) sc_law.nd rfl (.inl rfl))
  (pss_one (ps_set (i := 11) sc_law.nd rfl (.inl rfl) (pe_call (ok_l_otherwise T) (hr.mono (by decide)) (by rfl) T.g_l_otherwise T.F_l_otherwise.kp T.b_l_otherwise .nil pass0 (pa_cons (pv 2) (pa_cons (pv 11) pa_nil))))))
 (pss_cons (ps_set (i := 13) sc_law.nd rfl (.inl rfl) (pe_call (ok_p_are_prices T) (hr.mono (by decide)) (by rfl) T.g_p_are_prices T.F_p_are_prices.kp T.b_p_are_prices .nil pass0 (pa_cons (pe_call (ok_l_made T) (hr.mono (by decide)) (by rfl) T.g_l_made T.F_l_made.kp T.b_l_made .nil pass0 (pa_cons (pv 11) pa_nil)) (pa_cons (pv 9) pa_nil))))
 (pss_one (ps_if (PW.pt (pw_or (pt_not (pt_val (pe_callB call_isi (by rfl) T.z_isinstance (by decide +kernel) (pa_cons (pv 13) (pa_cons (pe_bltn (v := .ty "bool") (by rfl) T.z_bool (by decide +kernel) rfl) pa_nil))))) (pw_or1 (pt_cmpR op_ne (pv 13) (pe_call (ok_l_due T) (hr.mono (by decide)) (by rfl) T.g_l_due T.F_l_due.kp T.b_l_due .nil pass0 (pa_cons (pv 6) (pa_cons (pv 11) pa_nil))) (nomark _)))))
  (pss_one (ps_ret pe_bl))
  pss_nil))))))
 (pss_cons (ps_set (i := 14) sc_law.nd rfl (.inl rfl) (pe_call (ok_l_made T) (hr.mono (by decide)) (by rfl) T.g_l_made T.F_l_made.kp T.b_l_made .nil pass0 (pa_cons (pv 8) pa_nil)))
 (pss_cons (ps_set (i := 15) sc_law.nd rfl (.inl rfl) (pe_lst (pa_cons pe_non (pa_cons pe_int (pa_cons pe_str (pa_cons (pe_callTy call_list_of (by rfl) T.z_list (by decide +kernel) (pa_cons (pv 14) pa_nil)) (pa_cons (pe_slice sl_tup (pv 14) po_none (po_some pe_int)) (pa_cons (pe_op op_catT (pv 14) (pe_slice sl_tup (pv 14) po_none (po_some pe_int))) (pa_cons (pe_tup pa_nil) (pa_cons (pe_tup (pa_cons pe_non (pa_cons pe_non pa_nil))) pa_nil))))))))))
 (pss_cons (ps_expr (pe_bm PySem.F.plainAttrs_list PySem.F.slot_list_append PySem.F.type_list_append mt_append (pv 15) (pa_cons (pe_tup (pa_cons (pe_ix ix_tup (pv 14) pe_int (fun _ _ => rfl)) (pa_cons (pe_callTy call_tuple_of (by rfl) T.z_tuple (by decide +kernel) (pa_cons (pe_ix ix_tup (pv 14) pe_int (fun _ _ => rfl)) pa_nil)) pa_nil))) pa_nil)))
 (pss_one (ps_if (PW.pt (pw_or (pt_cmpR op_notBl (pe_call (ok_p_are_prices T) (hr.mono (by decide)) (by rfl) T.g_p_are_prices T.F_p_are_prices.kp T.b_p_are_prices .nil pass0 (pa_cons (pe_call (ok_l_one T) (hr.mono (by decide)) (by rfl) T.g_l_one T.F_l_one.kp T.b_l_one .nil pass0 (pa_cons (pv 2) (pa_cons (pv 15) pa_nil))) (pa_cons (pv 9) pa_nil))) pe_bl (nomark _)) (pw_or1 (pt_cmpR (op_neB (rcB_listN (eqB_list ((RcB.imp (rcB_ins (C := T.c_Share) (ok_m_Share_eq T) T.h_m_Share_eq.at_ T.h_m_Share_eq.fn T.b_m_Share_eq) (dsh_ins T.c_Share)).eqB (dsh_ref T.c_Share) (dsh_refl T.c_Share)) (dsh_refl T.c_Share))) (hr.mono (by decide))) (pv 9) (pe_call (ok_l_rows T) (hr.mono (by decide)) (by rfl) T.g_l_rows T.F_l_rows.kp T.b_l_rows .nil pass0 (pa_cons (pv 6) pa_nil)) (nomark _)))))
  (pss_one (ps_ret pe_bl))
  pss_nil)))))))))))))))
 (pss_one (ps_ret pe_bl))), ?_⟩
    refine ⟨_, rfl, 6, rfl, a, _, rfl, hS, fun c1 n1 => ?_⟩
    refine ⟨by show 2 ≤ sizeLine; decide, fun c2 n2 => ?_⟩
    have ne12 : c1 ≠ c2 := fun z => by
      rw [← z, upd_same] at n2
      cases n2
    refine ⟨c1, c2, _, _, rfl, rfl, by rw [upd_ne ne12]; exact upd_same, upd_same, ?_, fun c3 n3 => ?_⟩
    · have := cutV_length (ns.map V.int) none (some 6)
      rw [List.length_map] at this
      exact Nat.le_of_lt (small1000 (by show _ + 2 ≤ 1000; omega))
    generalize hH0 : upd (upd (upd H c1 (.lst (cutV (ns.map V.int) none (some 6)))) c2 (.lst [.int 0, .int 1])) c3 (.lst (cutV (ns.map V.int) none (some 6) ++ [.int 0, .int 1])) = H0
    have hc3 : H0 c3 = some (.lst (cutV (ns.map V.int) none (some 6) ++ [.int 0, .int 1])) := by
      rw [← hH0]
      exact upd_same
    refine ⟨c3, rfl, ⟨_, SqL.of hc3⟩, for_list (K := K) (a := c3) (xs := cutV (ns.map V.int) none (some 6) ++ [.int 0, .int 1])
      (fun i σ H' => ∃ y1 y2 y3 y4 y5 y6 y7 y8 y9 y10 y11 y12 y13 y14 y15, σ = [some (.ref a), y1, y2, y3, y4, y5, y6, y7, y8, y9, y10, y11, y12, y13, y14, y15] ∧ Same H0 H') ⟨_, _, _, _, _, _, _, _, _, _, _, _, _, _, _, rfl, Same.refl _⟩ (fun i σ H' _ h => ?_) (fun i x σ H' hx h => ?_) (fun σ H' h => ?_)⟩
    · obtain ⟨_, _, _, _, _, _, _, _, _, _, _, _, _, _, _, _, s0⟩ := h
      exact s0.seq (SqL.of hc3)
    · obtain ⟨y1, y2, y3, y4, y5, y6, y7, y8, y9, y10, y11, y12, y13, y14, y15, rfl, s0⟩ := h
      obtain ⟨z, rfl⟩ := cells_int (more := [0, 1]) hx
      refine ⟨_, rfl, z, rfl, fun aw H1 nA sA wA => ?_⟩
      have w1 := wA.mono (show 2000 ≤ 1099511627776 by decide)
      refine ⟨_, rfl, by show 4 ≤ sizeLine; decide, fun p1 n1 => ?_⟩
      obtain ⟨w2, s2⟩ := well_new (o := .lst [.int 4, .int 4, .int 4, .int 12]) w1 n1
      refine ⟨aw, p1, _, 1999, rfl, w2, sqL_hid w1 n1, by decide, by decide, fun i2 x2 H2 hx2 s3 w3 => ?_⟩
      obtain ⟨mo, rfl, mo0, mo1⟩ : ∃ mo : Nat, x2 = .int mo ∧ 0 < mo ∧ mo ≤ 12 := by
        rcases mem4 hx2 with e | e | e | e
        · exact ⟨4, e, by decide, by decide⟩
        · exact ⟨4, e, by decide, by decide⟩
        · exact ⟨4, e, by decide, by decide⟩
        · exact ⟨12, e, by decide, by decide⟩
      have sB : Same H0 (hid aw H2) := s0.trans (sA.trans (s2.trans s3))
      -- how many
      refine ⟨_, rfl, _, rfl, aw, mo, 1998, rfl, w3, by omega, log_small (by omega), fun d H3 d0 d1 s4 w4 => ⟨_, _, rfl, rfl, ?_⟩⟩
      refine ⟨_, rfl, _, rfl, aw, mo, 1997, rfl, w4, by omega, log_small (by omega), fun d' H4 d0' d1' s5 w5 => ⟨_, _, rfl, rfl, ?_⟩⟩
      refine ⟨_, _, rfl, ?_⟩
      dsimp only
      obtain ⟨m, hm, m0, m12⟩ : ∃ m : Nat, 1 + d = (m : Int) ∧ 0 < m ∧ m ≤ 12 := ⟨(1 + d).toNat, by omega, by omega, by omega⟩
      obtain ⟨k, hk, k0, k12⟩ : ∃ k : Nat, 1 + d' = (k : Int) ∧ 0 < k ∧ k ≤ 12 := ⟨(1 + d').toNat, by omega, by omega, by omega⟩
      rw [hm, hk]
      have sB4 : Same H0 (hid aw H4) := sB.trans (s4.trans s5)
      clear sB s4 s5 w4 hm hk d0 d1 d0' d1'
      -- costs
      refine ⟨_, rfl, _, rfl, _, rfl, aw, m, k, 1800, rfl, w5.mono (by decide), m12, k12, fun H5 pc css b npc s6 w6 hcs lcs C => ?_⟩
      have c0 : 0 < css.length := by omega
      -- heaps
      refine ⟨_, rfl, _, rfl, aw, m, 1700, rfl, w6.mono (by decide), m0, m12, fun H6 pf pl _ s7 w7 hpl lpl okp => ?_⟩
      refine ⟨_, rfl, _, rfl, aw, k, 1600, rfl, w7.mono (by decide), k0, k12, fun H7 pg ql _ s8 w8 hql lql okq => ?_⟩
      refine ⟨by show 2 ≤ sizeLine; decide, fun ph nph => ?_⟩
      obtain ⟨w9, s9⟩ := well_new (o := .tup [.ref pf, .ref pg]) w8 nph
      have eph : hid aw (upd H7 ph (.tup [.ref pf, .ref pg])) ph = some (.tup [.ref pf, .ref pg]) := by
        rw [hid_updN (w8.ne nph)]
        exact upd_same
      generalize upd H7 ph (.tup [.ref pf, .ref pg]) = H8 at *
      have hcs := IsTbl.mono (R := IsPrs) (fun _ _ _ _ s h => h.mono s) hcs (s7.trans (s8.trans s9))
      have hpl := hpl.mono (s8.trans s9)
      have hql := hql.mono s9
      have sB8 : Same H0 (hid aw H8) := sB4.trans (s6.trans (s7.trans (s8.trans s9)))
      -- prices
      refine ⟨_, rfl, _, rfl, aw, _, css, k, b, 1500, rfl, w9.mono (by decide), hcs, C, c0, by omega, k0, k12, fun H9 pp x y hs ts _ s10 w10 epp hx hy lhs lts nhs nts fit => ?_⟩
      have hcs := IsTbl.mono (R := IsPrs) (fun _ _ _ _ s h => h.mono s) hcs s10
      have hpl := hpl.mono s10
      have hql := hql.mono s10
      have eph := s10 _ _ eph
      have sB9 := sB8.trans s10
      have CB := costB_of C c0 (by omega) k0 k12
      have rowC : ∀ qs ∈ css, qs.length ≤ 900 ∧ ∀ q ∈ qs, Bd 9000 q := fun qs hq => ⟨by rw [(C.row qs hq).1]; omega, fun q h => ((CB.row qs hq).2 q h).mono (by decide)⟩
      -- rows
      refine ⟨_, rfl, _, css, rfl, IsTbl.mono (R := IsPrs) (fun _ _ _ _ s h => h.mono s) hcs hid_same, rowC, by omega, fun HA pr npr s11 hrw => ?_⟩
      have wA' := w10.same s11
      have mA := hid_mono (a := aw) s11
      have F1 := IsTbl.mono (R := IsPrs) (fun _ _ _ _ s h => h.mono s) hcs mA
      have F2 := hpl.mono mA
      have F3 := hql.mono mA
      have F4 := mA _ _ eph
      have F5 := mA _ _ epp
      have F6 := hx.mono mA
      have F7 := hy.mono mA
      have F8 : IsTbl (IsShares T.c_Share) (hid aw HA) (.ref pr) css := tbl_hid wA' (w10.ne npr) (fun qs h => by rw [(C.row qs h).1]; exact k0) hrw
      have sD : Same H0 (hid aw HA) := sB9.trans mA
      have b0 := C.b0
      have b12 := C.b1
      have bh : ∀ q ∈ hs, Bd 43 q := fun q h => n300 b0 b12 (by decide) (nhs q h)
      have bt : ∀ q ∈ ts, Bd 43 q := fun q h => n300 b0 b12 (by decide) (nts q h)
      have nh : NiB (b * 300) 1000000021 12 (hs.map some) := niB_of nhs (by omega)
      have nt : NiB (b * 300) 1000000021 12 (ts.map some) := niB_of (fun q h => (nts q h).mono (Nat.dvd_refl _) (by decide)) (by omega)
      have P0 : TwoRows (hid aw HA) pp (hs.map some) (ts.map some) := ⟨_, _, F5, prow_of F6, prow_of F7⟩
      have tbs : ∀ {G : Hp}, Same (hid aw HA) G → IsTbl (IsShares T.c_Share) G (.ref pr) css := fun s => tbl_mono F8 s
      have tbp : ∀ {G : Hp}, Same (hid aw HA) G → IsTbl IsPrs G (.ref pc) css := fun s => IsTbl.mono (R := IsPrs) (fun _ _ _ _ s h => h.mono s) F1 s
      clear hcs hpl hql eph epp hx hy hrw
      -- are_prices of the law's prices
      refine ⟨_, rfl, pp, _, _, rfl, P0.mono hid_same, itb_of bh (by omega) (by decide), itb_of bt (by omega) (by decide), fun HB rb x' y' sM eb mx my => ?_⟩
      have sAB : Same (hid aw HA) HB := hid_same.trans sM
      refine ⟨_, rfl, _, _, css, k, rfl, tbs sAB, CB, .inr (.inr ⟨rb, x', y', some _, some _, rfl, eb, mx, my, rowB_of (nh.itb b0 b12 (by decide)) (by decide) (by decide), rowB_of (nt.itb b0 b12 (by decide)) (by decide) (by decide), fun HC sN => ⟨_, true, rfl, rfl, _, rfl, ?_⟩⟩)⟩
      rw [prB_true C c0 (by omega) lts fit]
      refine iteF ?_
      have sAC : Same HA HC := sM.trans sN
      have sE : Same (hid aw HA) (hid aw HC) := hid_mono sAC
      refine ⟨_, rfl, _, rfl, _, rfl, _, rfl, aw, ph, pp, _, _, _, _, _, css, pl, ql, hs, ts, b, 1000, rfl, (wA'.same sAC).mono (by decide), tbp sE, by rw [lql]; exact C, by omega, sE _ _ F4, F2.mono sE, F3.mono sE, okp, okq, by omega, by omega, sE _ _ F5, F6.mono sE, F7.mono sE, by omega, by omega, bh, bt, fun HD sS wD => ⟨_, rfl, iteF ?_⟩⟩
      have sF : Same (hid aw HA) (hid aw HD) := sE.trans sS
      -- three turns
      refine ⟨3, rfl, by decide, by decide, for_range (fun i σ H' => ∃ y10 y11 y12 y13 y14 y15, σ = [some (.ref a), some (.int z), some (.ref aw), some (.int mo), some (.int m), some (.int k), some (.ref pc), some (.ref ph), some (.ref pp), some (.ref pr), y10, y11, y12, y13, y14, y15] ∧ Same (hid aw HA) (hid aw H') ∧ WellAt H' aw (1000 - 20 * i)) ⟨_, _, _, _, _, _, rfl, sF, wD⟩ (fun i σ H' hi h => ?_) (fun σ H' h => ?_)⟩
      · obtain ⟨y10, y11, y12, y13, y14, y15, rfl, sG, wG⟩ := h
        have hi3 : i < 3 := hi
        refine ⟨_, rfl, ?_⟩
        refine ⟨_, rfl, aw, 2, 1000 - 20 * i - 1, rfl, wG.mono (by omega), by decide, log_small (m := 2) (by decide), fun d2 H2 e0 e1 s2 w2 => ⟨_, _, rfl, rfl, _, rfl, by omega, by omega, ?_⟩⟩
        refine for_range (fun j σ H' => ∃ po i1 i2 y12 y13 y14 y15, σ = [some (.ref a), some (.int z), some (.ref aw), some (.int mo), some (.int m), some (.int k), some (.ref pc), some (.ref ph), some (.ref pp), some (.ref pr), some (.int (0 + (i : Int))), some (.ref po), y12, y13, y14, y15] ∧ Same (hid aw HA) (hid aw H') ∧ WellAt H' aw (1000 - 20 * i - 1 - 4 * j) ∧ TwoRows (hid aw H') po i1 i2 ∧ NiB (b * 300) (1000000021 + 5 * j) (12 + j) i1 ∧ NiB (b * 300) (1000000021 + 5 * j) (12 + j) i2) ⟨_, _, _, _, _, _, _, rfl, sG.trans s2, w2, P0.mono (sG.trans s2), nh, nt⟩ (fun j σ H3 hj h => ?_) (fun σ H3 h => ?_)
        · obtain ⟨po, i1, i2, y12, y13, y14, y15, rfl, sH, wH, hpo, q1, q2⟩ := h
          have hj2 : j < 2 := by omega
          refine ⟨_, rfl, _, rfl, aw, po, i1, i2, b, _, _, 1000 - 20 * i - 1 - 4 * (j + 1), rfl, wH.mono (by omega), hpo, q1, q2, b0, b12, by omega, by omega, fun H4 r4 i1' i2' s4 w4 h4 q1' q2' => ?_⟩
          exact ⟨r4, i1', i2', _, _, _, _, rfl, sH.trans s4, w4, h4, q1'.mono (by omega) (by omega), q2'.mono (by omega) (by omega)⟩
        · obtain ⟨po, i1, i2, y12, y13, y14, y15, rfl, sH, wH, hpo, q1, q2⟩ := h
          have j2 : (1 + d2).toNat ≤ 2 := by omega
          have q1 := q1.mono (show _ ≤ 1000000100 by omega) (show _ ≤ 100 by omega)
          have q2 := q2.mono (show _ ≤ 1000000100 by omega) (show _ ≤ 100 by omega)
          have it1 := q1.itb b0 b12 (Nat.le_refl _)
          have it2 := q2.itb b0 b12 (Nat.le_refl _)
          refine ⟨_, rfl, po, i1, i2, rfl, hpo.mono hid_same, it1.mono (by decide) (by decide), it2.mono (by decide) (by decide), fun H4 r4 x4 y4 s4 e4 mx4 my4 => ?_⟩
          have sI : Same (hid aw HA) H4 := sH.trans (hid_same.trans s4)
          refine ⟨_, rfl, _, _, css, k, rfl, tbs sI, CB, .inr (.inr ⟨r4, x4, y4, some _, some _, rfl, e4, mx4, my4, rowB_of it1 (by decide) (by decide), rowB_of it2 (by decide) (by decide), fun H5 s5 => ?_⟩)⟩
          refine ⟨_, rfl, _, _, _, _, true, rfl, .ty _, .base (.bl _), kit_ty (by decide +kernel), true, rfl, iteF ?_⟩
          have s35 := s4.trans s5
          refine ⟨_, rfl, _, rfl, _, rfl, _, po, css, k, b, i1, i2, rfl, tbp (sI.trans s5), C, c0, by omega, k12, hpo.mono (hid_same.trans s35), q1, q2, fun H6 s6 => ⟨rfl, _, rfl, ?_⟩⟩
          rw [decide_eq_true rfl]
          refine iteF ⟨_, _, _, _, _, _, rfl, sH.trans (hid_mono (s35.trans s6)), (wH.same (s35.trans s6)).mono (by omega)⟩
      · obtain ⟨y10, y11, y12, y13, y14, y15, rfl, sG, wG⟩ := h
        -- what is told
        refine ⟨_, rfl, pp, _, _, rfl, (P0.mono sG).mono hid_same, itb_of bh (by omega) (by decide), itb_of bt (by omega) (by decide), fun G1 rt xt yt t1 et mxt myt => ?_⟩
        obtain ⟨py, yvs, rfl, ey, ay⟩ := id myt
        have w1 := wG.same t1
        -- strange things
        refine ⟨_, rfl, rt, _, rfl, .inr (.inl (.inl et)), fun l3 n3 => ?_⟩
        have t2 := same_upd (o := .lst [xt, .ref py]) n3
        have x3 : (upd G1 l3 (.lst [xt, .ref py])) l3 = some (.lst [xt, .ref py]) := upd_same
        have a3 := w1.ne n3
        generalize upd G1 l3 (.lst [xt, .ref py]) = G2 at *
        refine ⟨_, rfl, 1, rfl, rt, _, rfl, .inl (.inl (t2 _ _ et)), by show ¬ (HT.sIx 2 0 none = 0 ∧ HT.sIx 2 2 (some 1) = 2); decide, fun l4 n4 => ?_⟩
        have t3 := same_upd (o := .tup (cutV [xt, .ref py] none (some 1))) n4
        have x4 : (upd G2 l4 (.tup (cutV [xt, .ref py] none (some 1)))) l4 = some (.tup [xt]) := by rw [upd_same]; rfl
        generalize upd G2 l4 (.tup (cutV [xt, .ref py] none (some 1))) = G3 at *
        refine ⟨_, rfl, _, rfl, 1, rfl, rt, _, rfl, .inl (.inl (t3 _ _ (t2 _ _ et))), by show ¬ (HT.sIx 2 0 none = 0 ∧ HT.sIx 2 2 (some 1) = 2); decide, fun l5 n5 => ?_⟩
        have t4 := same_upd (o := .tup (cutV [xt, .ref py] none (some 1))) n5
        have x5 : (upd G3 l5 (.tup (cutV [xt, .ref py] none (some 1)))) l5 = some (.tup [xt]) := by rw [upd_same]; rfl
        generalize upd G3 l5 (.tup (cutV [xt, .ref py] none (some 1))) = G4 at *
        refine ⟨rt, l5, _, _, rfl, rfl, .inl (.inl (t4 _ _ (t3 _ _ (t2 _ _ et)))), .inl (.inl x5), by simp, by show 3 ≤ sizeLine; decide, fun z => (by simp at z), fun _ l6 n6 => ?_⟩
        have t5 := same_upd (o := .tup ([xt, .ref py] ++ [xt])) n6
        have x6 : (upd G4 l6 (.tup ([xt, .ref py] ++ [xt]))) l6 = some (.tup [xt, .ref py, xt]) := upd_same
        generalize upd G4 l6 (.tup ([xt, .ref py] ++ [xt])) = G5 at *
        refine ⟨Nat.zero_le _, fun l7 n7 => ?_⟩
        have t6 := same_upd (o := .tup []) n7
        have x7 : (upd G5 l7 (.tup [])) l7 = some (.tup []) := upd_same
        generalize upd G5 l7 (.tup []) = G6 at *
        refine ⟨by show 2 ≤ sizeLine; decide, fun l8 n8 => ?_⟩
        have t7 := same_upd (o := .tup [.non, .non]) n8
        have x8 : (upd G6 l8 (.tup [.non, .non])) l8 = some (.tup [.non, .non]) := upd_same
        generalize upd G6 l8 (.tup [.non, .non]) = G7 at *
        have t27 := t2.trans (t3.trans (t4.trans (t5.trans (t6.trans t7))))
        have X3 := t7 _ _ (t6 _ _ (t5 _ _ (t4 _ _ (t3 _ _ x3))))
        have X4 := t7 _ _ (t6 _ _ (t5 _ _ (t4 _ _ x4)))
        have X6 := t7 _ _ (t6 _ _ x6)
        have X7 := t7 _ _ x7
        have ET := t27 _ _ et
        have w7 := w1.same t27
        refine ⟨by show 8 ≤ sizeLine; decide, fun ls nls => ?_⟩
        have t8 := same_upd (o := .lst [.non, .int 7, .str "prices", .ref l3, .ref l4, .ref l6, .ref l7, .ref l8]) nls
        have xs0 : (upd G7 ls (.lst [.non, .int 7, .str "prices", .ref l3, .ref l4, .ref l6, .ref l7, .ref l8])) ls = some (.lst [.non, .int 7, .str "prices", .ref l3, .ref l4, .ref l6, .ref l7, .ref l8]) := upd_same
        have wls := w7.ne nls
        generalize upd G7 ls (.lst [.non, .int 7, .str "prices", .ref l3, .ref l4, .ref l6, .ref l7, .ref l8]) = G8 at *
        -- one more
        refine ⟨_, rfl, .inl ⟨rfl, _, SqL.of xs0⟩, _, rfl, rt, _, _, _, rfl, rfl, .inl (.inl (t8 _ _ ET)), atI_nat (j := 0) rfl, _, rfl, rt, _, _, _, rfl, rfl, .inl (.inl (t8 _ _ ET)), atI_nat (j := 1) rfl, py, yvs, rfl, .inl ⟨SqL.of (t8 _ _ (t27 _ _ ey)), fun tq nq => ?_⟩⟩
        have t9 := same_upd (o := .tup yvs) nq
        have xq : (upd G8 tq (.tup yvs)) tq = some (.tup yvs) := upd_same
        generalize upd G8 tq (.tup yvs) = G9 at *
        refine ⟨by show 2 ≤ sizeLine; decide, fun l9 n9 => ?_⟩
        have t10 := same_upd (o := .tup [xt, .ref tq]) n9
        have x9 : (upd G9 l9 (.tup [xt, .ref tq])) l9 = some (.tup [xt, .ref tq]) := upd_same
        generalize upd G9 l9 (.tup [xt, .ref tq]) = G10 at *
        have t810 := t9.trans t10
        have xsA := t810 _ _ xs0
        refine ⟨ls, _, _, rfl, rfl, xsA, small1000 (by show 8 ≤ 1000; decide), ?_⟩
        generalize hX : ([V.non, .int 7, .str "prices", .ref l3, .ref l4, .ref l6, .ref l7, .ref l8] ++ [V.ref l9]) = xs10
        have nls7 : ∀ b o, G7 b = some o → b ≠ ls := fun b o e zz => by
          rw [zz, nls] at e
          cases e
        have w10' := w7.same (t8.trans t810)
        have wU : WellAt (upd G10 ls (.lst xs10)) aw 900 := (w10'.upd wls).mono (by decide)
        have up7 : ∀ b o, G7 b = some o → b ≠ aw → hid aw (upd G10 ls (.lst xs10)) b = some o := fun b o e hb => by
          rw [hid_ne hb, upd_ne (nls7 b o e)]
          exact t810 _ _ (t8 _ _ e)
        have naw : ∀ {G : Hp} {b : Addr} {o : HO}, WellAt G aw (1000 - 20 * (3 : Int).toNat) → G b = some o → (∀ xs, o ≠ .lst xs) → b ≠ aw := fun {G b o} wg e ho zz => by
          obtain ⟨yy, ee⟩ := eW wg
          rw [zz, ee] at e
          cases e
          exact ho _ rfl
        have nls10 : ∀ {b : Addr} {o : HO}, G10 b = some o → (∀ xs, o ≠ .lst xs) → b ≠ ls := fun {b o} e ho zz => by
          rw [zz, xsA] at e
          cases e
          exact ho _ rfl
        have sJ : Same (hid aw HA) (hid aw (upd G10 ls (.lst xs10))) := fun b o e => by
          have hb : b ≠ aw := fun zz => by
            rw [zz] at e
            simp [hid] at e
          exact up7 b o (t27 _ _ (t1 _ _ (hid_same _ _ (sG _ _ e)))) hb
        have sJ1 : Same (hid aw G1) (hid aw (upd G10 ls (.lst xs10))) := fun b o e => by
          have hb : b ≠ aw := fun zz => by
            rw [zz] at e
            simp [hid] at e
          rw [hid_ne hb] at e
          exact up7 b o (t27 _ _ e) hb
        have XQ : hid aw (upd G10 ls (.lst xs10)) tq = some (.tup yvs) := by
          have e := t10 _ _ xq
          rw [hid_ne (naw w10' e fun _ => nofun), upd_ne (nls10 e fun _ => nofun)]
          exact e
        have X9 : hid aw (upd G10 ls (.lst xs10)) l9 = some (.tup [xt, .ref tq]) := by
          rw [hid_ne (naw w10' x9 fun _ => nofun), upd_ne (nls10 x9 fun _ => nofun)]
          exact x9
        refine ⟨_, rfl, _, rfl, aw, ls, xs10, 899, rfl, wU, by rw [hid_updN wls]; exact sqL_new, by rw [← hX]; show 0 < 9; decide, by rw [← hX]; show 9 ≤ 1000; decide, fun i9 x9' H9' hx9 s9' w9' => ?_⟩
        have sK : Same (hid aw HA) H9' := sJ.trans (s9'.trans hid_same)
        have sK7 : ∀ b o, G7 b = some o → b ≠ aw → H9' b = some o := fun b o e hb => hid_same _ _ (s9' _ _ (up7 b o e hb))
        have fact : NoTup K H9' x9' ∨ (∃ p xs, x9' = .ref p ∧ H9' p = some (.tup xs) ∧ xs.length ≠ 2) ∨ ∃ p x y r1 r2, x9' = .ref p ∧ H9' p = some (.tup [x, y]) ∧ IsRw K T.c_Share H9' x r1 ∧ IsRw K T.c_Share H9' y r2 ∧ RowB 60 900 r1 ∧ RowB 60 900 r2 ∧ prB r1 r2 css = false := by
          have hm := List.mem_of_getElem? hx9
          rw [← hX] at hm
          simp only [List.cons_append, List.nil_append, List.mem_cons, List.not_mem_nil, or_false] at hm
          have noR : RowB 60 900 none := fun _ e => by cases e
          rcases hm with rfl | rfl | rfl | rfl | rfl | rfl | rfl | rfl | rfl
          · exact .inl ⟨_, .base .non, kit_ty (by decide +kernel)⟩
          · exact .inl ⟨_, .base (.int _), kit_ty (by decide +kernel)⟩
          · exact .inl ⟨_, .base (.str _), kit_ty (by decide +kernel)⟩
          · exact .inl ⟨_, .base (.lst (sK7 _ _ X3 a3)), kit_ty (by decide +kernel)⟩
          · exact .inr (.inl ⟨l4, _, rfl, sK7 _ _ X4 (naw w7 X4 fun _ => nofun), by simp⟩)
          · exact .inr (.inl ⟨l6, _, rfl, sK7 _ _ X6 (naw w7 X6 fun _ => nofun), by simp⟩)
          · exact .inr (.inl ⟨l7, _, rfl, sK7 _ _ X7 (naw w7 X7 fun _ => nofun), by simp⟩)
          · exact .inr (.inr ⟨l8, _, _, none, none, rfl, sK7 _ _ x8 (naw w7 x8 fun _ => nofun), ⟨_, .base .non, kit_ty (by decide +kernel)⟩, ⟨_, .base .non, kit_ty (by decide +kernel)⟩, noR, noR, rfl⟩)
          · refine .inr (.inr ⟨l9, _, _, some (hs.map some), none, rfl, hid_same _ _ (s9' _ _ X9), ?_, ⟨_, .base (.tup (hid_same _ _ (s9' _ _ XQ))), kit_ty (by decide +kernel)⟩, rowB_of (nh.itb b0 b12 (by decide)) (by decide) (by decide), noR, ?_⟩)
            · obtain ⟨pxt, xvs, rfl, exx, axx⟩ := id mxt
              have hpx : pxt ≠ aw := fun zz => by
                obtain ⟨w0, ww1, ww2, ew, _⟩ := w1
                rw [zz, ew] at exx
                cases exx
                have l0 : 0 < (hs.map some).length := by rw [List.length_map]; omega
                have := axx.2 0 (.int w0) _ rfl (List.getElem?_eq_getElem l0)
                rw [List.getElem_map] at this
                obtain ⟨_, _, ee, _⟩ := this
                cases ee
              have mv : Same (hid aw G1) H9' := sJ1.trans (s9'.trans hid_same)
              refine ⟨pxt, xvs, rfl, mv _ _ (by rw [hid_ne hpx]; exact exx), ⟨axx.1, fun i v o hv ho => ?_⟩⟩
              have := axx.2 i v o hv ho
              rw [List.getElem?_map] at ho
              obtain ⟨q', _, rfl⟩ := Option.map_eq_some_iff.mp ho
              exact IsShare.mono (IsShare.hid w1 this) mv
            · unfold prB
              rw [show onRow shOk (rowAt css 0).length none = false from rfl, Bool.false_and, Bool.and_false]
        refine ⟨_, rfl, _, _, css, k, rfl, tbs sK, CB, ?_⟩
        rcases fact with no | ⟨p, xs, e1, e2, e3⟩ | ⟨p, x, y, r1, r2, e1, e2, e3, e4, e5, e6, e7⟩
        · refine .inl ⟨no, fun H10 sZ => ⟨_, false, rfl, rfl, _, rfl, iteF ?_⟩⟩
          have sL : Same (hid aw HA) H10 := sK.trans sZ
          refine ⟨_, rfl, _, rfl, _, css, rfl, tbp sL, rowC, by omega, fun H11 q1 m1 s12 g1 => ?_⟩
          exact ⟨true, dtbl_of (tbs (sL.trans s12)) g1, _, rfl, iteF ⟨_, _, _, _, _, _, _, _, _, _, _, _, _, _, _, rfl, sD.trans (sL.trans s12)⟩⟩
        · refine .inr (.inl ⟨p, xs, e1, e2, e3, fun H10 sZ => ⟨_, false, rfl, rfl, _, rfl, iteF ?_⟩⟩)
          have sL : Same (hid aw HA) H10 := sK.trans sZ
          refine ⟨_, rfl, _, rfl, _, css, rfl, tbp sL, rowC, by omega, fun H11 q1 m1 s12 g1 => ?_⟩
          exact ⟨true, dtbl_of (tbs (sL.trans s12)) g1, _, rfl, iteF ⟨_, _, _, _, _, _, _, _, _, _, _, _, _, _, _, rfl, sD.trans (sL.trans s12)⟩⟩
        · refine .inr (.inr ⟨p, x, y, r1, r2, e1, e2, e3, e4, e5, e6, fun H10 sZ => ⟨_, false, rfl, rfl, _, rfl, ?_⟩⟩)
          rw [e7]
          refine iteF ?_
          have sL : Same (hid aw HA) H10 := sK.trans sZ
          refine ⟨_, rfl, _, rfl, _, css, rfl, tbp sL, rowC, by omega, fun H11 q1 m1 s12 g1 => ?_⟩
          exact ⟨true, dtbl_of (tbs (sL.trans s12)) g1, _, rfl, iteF ⟨_, _, _, _, _, _, _, _, _, _, _, _, _, _, _, rfl, sD.trans (sL.trans s12)⟩⟩
    · obtain ⟨_, _, _, _, _, _, _, _, _, _, _, _, _, _, _, rfl, _⟩ := h
      exact q _
end

end Fb

namespace Fb
open PySem PySem.Spec PyProof.Rows L2
set_option maxHeartbeats 4000000 in
theorem all_mk {l : PySem.W.OpenLaw} {w : World} {K : PySem.W.Frag} {h : Heap} {mg : Str → Option Value} {fa : Addr} (X : K.In h) (G : h.Ns mainGlobals mg) (hfa : mg "law" = some (.ref fa))
    {c_FarError c_NoShare c_Share f_p_written f_p_is_whole f_m_Share_init t_m_Share_init f_m_Share_eq f_m_Share_str f_p_common_part f_p_common_multiple f_p_common_bottom f_p_tops_over f_p_minus f_p_are_shares f_p_are_prices f_p_joined f_p_weighed f_p_cost_of f_p_brought f_l_well f_l_draw f_l_one f_l_low f_l_pair f_l_heap f_l_costs f_l_shares f_l_rows f_l_added f_l_total f_l_by f_l_below f_l_filled f_l_cost f_l_less f_l_prices f_l_due f_l_otherwise f_l_made f_l_summed f_law : Addr} {od_p_written an_p_written od_p_is_whole an_p_is_whole od_m_Share_init an_m_Share_init odt_m_Share_init od_m_Share_eq an_m_Share_eq od_m_Share_str an_m_Share_str od_p_common_part an_p_common_part od_p_common_multiple an_p_common_multiple od_p_common_bottom an_p_common_bottom od_p_tops_over an_p_tops_over od_p_minus an_p_minus od_p_are_shares an_p_are_shares od_p_are_prices an_p_are_prices od_p_joined an_p_joined od_p_weighed an_p_weighed od_p_cost_of an_p_cost_of od_p_brought an_p_brought od_l_well an_l_well od_l_draw an_l_draw od_l_one an_l_one od_l_low an_l_low od_l_pair an_l_pair od_l_heap an_l_heap od_l_costs an_l_costs od_l_shares an_l_shares od_l_rows an_l_rows od_l_added an_l_added od_l_total an_l_total od_l_by an_l_by od_l_below an_l_below od_l_filled an_l_filled od_l_cost an_l_cost od_l_less an_l_less od_l_prices an_l_prices od_l_due an_l_due od_l_otherwise an_l_otherwise od_l_made an_l_made od_l_summed an_l_summed od_law an_law : Option Addr} {sl_p_written sl_p_is_whole sl_m_Share_init slt_m_Share_init sl_m_Share_eq sl_m_Share_str sl_p_common_part sl_p_common_multiple sl_p_common_bottom sl_p_tops_over sl_p_minus sl_p_are_shares sl_p_are_prices sl_p_joined sl_p_weighed sl_p_cost_of sl_p_brought sl_l_well sl_l_draw sl_l_one sl_l_low sl_l_pair sl_l_heap sl_l_costs sl_l_shares sl_l_rows sl_l_added sl_l_total sl_l_by sl_l_below sl_l_filled sl_l_cost sl_l_less sl_l_prices sl_l_due sl_l_otherwise sl_l_made sl_l_summed sl_law : Array (Option Value)} {oc_p_written kV_p_written dc_p_written pm_p_written cd_p_written ct_p_written oc_p_is_whole kV_p_is_whole dc_p_is_whole pm_p_is_whole cd_p_is_whole ct_p_is_whole oc_m_Share_init kV_m_Share_init dc_m_Share_init pm_m_Share_init cd_m_Share_init ct_m_Share_init oct_m_Share_init oc_m_Share_eq kV_m_Share_eq dc_m_Share_eq pm_m_Share_eq cd_m_Share_eq ct_m_Share_eq oc_m_Share_str kV_m_Share_str dc_m_Share_str pm_m_Share_str cd_m_Share_str ct_m_Share_str oc_p_common_part kV_p_common_part dc_p_common_part pm_p_common_part cd_p_common_part ct_p_common_part oc_p_common_multiple kV_p_common_multiple dc_p_common_multiple pm_p_common_multiple cd_p_common_multiple ct_p_common_multiple oc_p_common_bottom kV_p_common_bottom dc_p_common_bottom pm_p_common_bottom cd_p_common_bottom ct_p_common_bottom oc_p_tops_over kV_p_tops_over dc_p_tops_over pm_p_tops_over cd_p_tops_over ct_p_tops_over oc_p_minus kV_p_minus dc_p_minus pm_p_minus cd_p_minus ct_p_minus oc_p_are_shares kV_p_are_shares dc_p_are_shares pm_p_are_shares cd_p_are_shares ct_p_are_shares oc_p_are_prices kV_p_are_prices dc_p_are_prices pm_p_are_prices cd_p_are_prices ct_p_are_prices oc_p_joined kV_p_joined dc_p_joined pm_p_joined cd_p_joined ct_p_joined oc_p_weighed kV_p_weighed dc_p_weighed pm_p_weighed cd_p_weighed ct_p_weighed oc_p_cost_of kV_p_cost_of dc_p_cost_of pm_p_cost_of cd_p_cost_of ct_p_cost_of oc_p_brought kV_p_brought dc_p_brought pm_p_brought cd_p_brought ct_p_brought oc_l_well kV_l_well dc_l_well pm_l_well cd_l_well ct_l_well oc_l_draw kV_l_draw dc_l_draw pm_l_draw cd_l_draw ct_l_draw oc_l_one kV_l_one dc_l_one pm_l_one cd_l_one ct_l_one oc_l_low kV_l_low dc_l_low pm_l_low cd_l_low ct_l_low oc_l_pair kV_l_pair dc_l_pair pm_l_pair cd_l_pair ct_l_pair oc_l_heap kV_l_heap dc_l_heap pm_l_heap cd_l_heap ct_l_heap oc_l_costs kV_l_costs dc_l_costs pm_l_costs cd_l_costs ct_l_costs oc_l_shares kV_l_shares dc_l_shares pm_l_shares cd_l_shares ct_l_shares oc_l_rows kV_l_rows dc_l_rows pm_l_rows cd_l_rows ct_l_rows oc_l_added kV_l_added dc_l_added pm_l_added cd_l_added ct_l_added oc_l_total kV_l_total dc_l_total pm_l_total cd_l_total ct_l_total oc_l_by kV_l_by dc_l_by pm_l_by cd_l_by ct_l_by oc_l_below kV_l_below dc_l_below pm_l_below cd_l_below ct_l_below oc_l_filled kV_l_filled dc_l_filled pm_l_filled cd_l_filled ct_l_filled oc_l_cost kV_l_cost dc_l_cost pm_l_cost cd_l_cost ct_l_cost oc_l_less kV_l_less dc_l_less pm_l_less cd_l_less ct_l_less oc_l_prices kV_l_prices dc_l_prices pm_l_prices cd_l_prices ct_l_prices oc_l_due kV_l_due dc_l_due pm_l_due cd_l_due ct_l_due oc_l_otherwise kV_l_otherwise dc_l_otherwise pm_l_otherwise cd_l_otherwise ct_l_otherwise oc_l_made kV_l_made dc_l_made pm_l_made cd_l_made ct_l_made oc_l_summed kV_l_summed dc_l_summed pm_l_summed cd_l_summed ct_l_summed oc_law kV_law dc_law pm_law cd_law ct_law : Value} {tk0_m_Share_init : _} {tkc_PIECE_LENGTH : _} {nt_m_Share_init : _}
    (a_FarError : PySem.W.nsIn K mainGlobals "FarError" = some (some (.ref c_FarError)))
    (a_NoShare : PySem.W.nsIn K mainGlobals "NoShare" = some (some (.ref c_NoShare)))
    (a_Share : PySem.W.nsIn K mainGlobals "Share" = some (some (.ref c_Share)))
    (a_p_written : PySem.W.nsIn K mainGlobals "written" = some (some (.ref f_p_written)))
    (l_p_written : K.lookup f_p_written = some ⟨oc_p_written, od_p_written, .func (PySem.W.fnOf "written" "written" (defArgs s_p_written) (defBody s_p_written) (defScope s_p_written) .none kV_p_written dc_p_written pm_p_written an_p_written cd_p_written ct_p_written), sl_p_written⟩)
    (c_p_written_ : PySem.W.codeIn K cd_p_written "written" = true)
    (k_p_written_ : PySem.W.keepIn K (.ref f_p_written) = true)
    (a_p_is_whole : PySem.W.nsIn K mainGlobals "is_whole" = some (some (.ref f_p_is_whole)))
    (l_p_is_whole : K.lookup f_p_is_whole = some ⟨oc_p_is_whole, od_p_is_whole, .func (PySem.W.fnOf "is_whole" "is_whole" (defArgs s_p_is_whole) (defBody s_p_is_whole) (defScope s_p_is_whole) .none kV_p_is_whole dc_p_is_whole pm_p_is_whole an_p_is_whole cd_p_is_whole ct_p_is_whole), sl_p_is_whole⟩)
    (c_p_is_whole_ : PySem.W.codeIn K cd_p_is_whole "is_whole" = true)
    (k_p_is_whole_ : PySem.W.keepIn K (.ref f_p_is_whole) = true)
    (a_m_Share_init : PySem.W.findIn K (.ref c_Share) "__init__" = some (some (.ref f_m_Share_init)))
    (l_m_Share_init : K.lookup f_m_Share_init = some ⟨oc_m_Share_init, od_m_Share_init, .func (PySem.W.fnOf "__init__" "Share.__init__" (defArgs s_m_Share_init) (defBody s_m_Share_init) (defScope s_m_Share_init) (.ref t_m_Share_init) kV_m_Share_init dc_m_Share_init pm_m_Share_init an_m_Share_init cd_m_Share_init ct_m_Share_init), sl_m_Share_init⟩)
    (lt_m_Share_init : K.lookup t_m_Share_init = some ⟨oct_m_Share_init, odt_m_Share_init, .seq (List.toArray [Value.int 1 tk0_m_Share_init]) nt_m_Share_init, slt_m_Share_init⟩)
    (c_m_Share_init_ : PySem.W.codeIn K cd_m_Share_init "Share.__init__" = true)
    (k_m_Share_init_ : PySem.W.keepIn K (.ref f_m_Share_init) = true)
    (a_m_Share_eq : PySem.W.findIn K (.ref c_Share) "__eq__" = some (some (.ref f_m_Share_eq)))
    (l_m_Share_eq : K.lookup f_m_Share_eq = some ⟨oc_m_Share_eq, od_m_Share_eq, .func (PySem.W.fnOf "__eq__" "Share.__eq__" (defArgs s_m_Share_eq) (defBody s_m_Share_eq) (defScope s_m_Share_eq) .none kV_m_Share_eq dc_m_Share_eq pm_m_Share_eq an_m_Share_eq cd_m_Share_eq ct_m_Share_eq), sl_m_Share_eq⟩)
    (c_m_Share_eq_ : PySem.W.codeIn K cd_m_Share_eq "Share.__eq__" = true)
    (k_m_Share_eq_ : PySem.W.keepIn K (.ref f_m_Share_eq) = true)
    (a_m_Share_str : PySem.W.findIn K (.ref c_Share) "__str__" = some (some (.ref f_m_Share_str)))
    (l_m_Share_str : K.lookup f_m_Share_str = some ⟨oc_m_Share_str, od_m_Share_str, .func (PySem.W.fnOf "__str__" "Share.__str__" (defArgs s_m_Share_str) (defBody s_m_Share_str) (defScope s_m_Share_str) .none kV_m_Share_str dc_m_Share_str pm_m_Share_str an_m_Share_str cd_m_Share_str ct_m_Share_str), sl_m_Share_str⟩)
    (c_m_Share_str_ : PySem.W.codeIn K cd_m_Share_str "Share.__str__" = true)
    (k_m_Share_str_ : PySem.W.keepIn K (.ref f_m_Share_str) = true)
    (a_p_common_part : PySem.W.nsIn K mainGlobals "common_part" = some (some (.ref f_p_common_part)))
    (l_p_common_part : K.lookup f_p_common_part = some ⟨oc_p_common_part, od_p_common_part, .func (PySem.W.fnOf "common_part" "common_part" (defArgs s_p_common_part) (defBody s_p_common_part) (defScope s_p_common_part) .none kV_p_common_part dc_p_common_part pm_p_common_part an_p_common_part cd_p_common_part ct_p_common_part), sl_p_common_part⟩)
    (c_p_common_part_ : PySem.W.codeIn K cd_p_common_part "common_part" = true)
    (k_p_common_part_ : PySem.W.keepIn K (.ref f_p_common_part) = true)
    (a_p_common_multiple : PySem.W.nsIn K mainGlobals "common_multiple" = some (some (.ref f_p_common_multiple)))
    (l_p_common_multiple : K.lookup f_p_common_multiple = some ⟨oc_p_common_multiple, od_p_common_multiple, .func (PySem.W.fnOf "common_multiple" "common_multiple" (defArgs s_p_common_multiple) (defBody s_p_common_multiple) (defScope s_p_common_multiple) .none kV_p_common_multiple dc_p_common_multiple pm_p_common_multiple an_p_common_multiple cd_p_common_multiple ct_p_common_multiple), sl_p_common_multiple⟩)
    (c_p_common_multiple_ : PySem.W.codeIn K cd_p_common_multiple "common_multiple" = true)
    (k_p_common_multiple_ : PySem.W.keepIn K (.ref f_p_common_multiple) = true)
    (a_p_common_bottom : PySem.W.nsIn K mainGlobals "common_bottom" = some (some (.ref f_p_common_bottom)))
    (l_p_common_bottom : K.lookup f_p_common_bottom = some ⟨oc_p_common_bottom, od_p_common_bottom, .func (PySem.W.fnOf "common_bottom" "common_bottom" (defArgs s_p_common_bottom) (defBody s_p_common_bottom) (defScope s_p_common_bottom) .none kV_p_common_bottom dc_p_common_bottom pm_p_common_bottom an_p_common_bottom cd_p_common_bottom ct_p_common_bottom), sl_p_common_bottom⟩)
    (c_p_common_bottom_ : PySem.W.codeIn K cd_p_common_bottom "common_bottom" = true)
    (k_p_common_bottom_ : PySem.W.keepIn K (.ref f_p_common_bottom) = true)
    (a_p_tops_over : PySem.W.nsIn K mainGlobals "tops_over" = some (some (.ref f_p_tops_over)))
    (l_p_tops_over : K.lookup f_p_tops_over = some ⟨oc_p_tops_over, od_p_tops_over, .func (PySem.W.fnOf "tops_over" "tops_over" (defArgs s_p_tops_over) (defBody s_p_tops_over) (defScope s_p_tops_over) .none kV_p_tops_over dc_p_tops_over pm_p_tops_over an_p_tops_over cd_p_tops_over ct_p_tops_over), sl_p_tops_over⟩)
    (c_p_tops_over_ : PySem.W.codeIn K cd_p_tops_over "tops_over" = true)
    (k_p_tops_over_ : PySem.W.keepIn K (.ref f_p_tops_over) = true)
    (a_p_minus : PySem.W.nsIn K mainGlobals "minus" = some (some (.ref f_p_minus)))
    (l_p_minus : K.lookup f_p_minus = some ⟨oc_p_minus, od_p_minus, .func (PySem.W.fnOf "minus" "minus" (defArgs s_p_minus) (defBody s_p_minus) (defScope s_p_minus) .none kV_p_minus dc_p_minus pm_p_minus an_p_minus cd_p_minus ct_p_minus), sl_p_minus⟩)
    (c_p_minus_ : PySem.W.codeIn K cd_p_minus "minus" = true)
    (k_p_minus_ : PySem.W.keepIn K (.ref f_p_minus) = true)
    (a_p_are_shares : PySem.W.nsIn K mainGlobals "are_shares" = some (some (.ref f_p_are_shares)))
    (l_p_are_shares : K.lookup f_p_are_shares = some ⟨oc_p_are_shares, od_p_are_shares, .func (PySem.W.fnOf "are_shares" "are_shares" (defArgs s_p_are_shares) (defBody s_p_are_shares) (defScope s_p_are_shares) .none kV_p_are_shares dc_p_are_shares pm_p_are_shares an_p_are_shares cd_p_are_shares ct_p_are_shares), sl_p_are_shares⟩)
    (c_p_are_shares_ : PySem.W.codeIn K cd_p_are_shares "are_shares" = true)
    (k_p_are_shares_ : PySem.W.keepIn K (.ref f_p_are_shares) = true)
    (a_p_are_prices : PySem.W.nsIn K mainGlobals "are_prices" = some (some (.ref f_p_are_prices)))
    (l_p_are_prices : K.lookup f_p_are_prices = some ⟨oc_p_are_prices, od_p_are_prices, .func (PySem.W.fnOf "are_prices" "are_prices" (defArgs s_p_are_prices) (defBody s_p_are_prices) (defScope s_p_are_prices) .none kV_p_are_prices dc_p_are_prices pm_p_are_prices an_p_are_prices cd_p_are_prices ct_p_are_prices), sl_p_are_prices⟩)
    (c_p_are_prices_ : PySem.W.codeIn K cd_p_are_prices "are_prices" = true)
    (k_p_are_prices_ : PySem.W.keepIn K (.ref f_p_are_prices) = true)
    (a_p_joined : PySem.W.nsIn K mainGlobals "joined" = some (some (.ref f_p_joined)))
    (l_p_joined : K.lookup f_p_joined = some ⟨oc_p_joined, od_p_joined, .func (PySem.W.fnOf "joined" "joined" (defArgs s_p_joined) (defBody s_p_joined) (defScope s_p_joined) .none kV_p_joined dc_p_joined pm_p_joined an_p_joined cd_p_joined ct_p_joined), sl_p_joined⟩)
    (c_p_joined_ : PySem.W.codeIn K cd_p_joined "joined" = true)
    (k_p_joined_ : PySem.W.keepIn K (.ref f_p_joined) = true)
    (a_p_weighed : PySem.W.nsIn K mainGlobals "weighed" = some (some (.ref f_p_weighed)))
    (l_p_weighed : K.lookup f_p_weighed = some ⟨oc_p_weighed, od_p_weighed, .func (PySem.W.fnOf "weighed" "weighed" (defArgs s_p_weighed) (defBody s_p_weighed) (defScope s_p_weighed) .none kV_p_weighed dc_p_weighed pm_p_weighed an_p_weighed cd_p_weighed ct_p_weighed), sl_p_weighed⟩)
    (c_p_weighed_ : PySem.W.codeIn K cd_p_weighed "weighed" = true)
    (k_p_weighed_ : PySem.W.keepIn K (.ref f_p_weighed) = true)
    (a_p_cost_of : PySem.W.nsIn K mainGlobals "cost_of" = some (some (.ref f_p_cost_of)))
    (l_p_cost_of : K.lookup f_p_cost_of = some ⟨oc_p_cost_of, od_p_cost_of, .func (PySem.W.fnOf "cost_of" "cost_of" (defArgs s_p_cost_of) (defBody s_p_cost_of) (defScope s_p_cost_of) .none kV_p_cost_of dc_p_cost_of pm_p_cost_of an_p_cost_of cd_p_cost_of ct_p_cost_of), sl_p_cost_of⟩)
    (c_p_cost_of_ : PySem.W.codeIn K cd_p_cost_of "cost_of" = true)
    (k_p_cost_of_ : PySem.W.keepIn K (.ref f_p_cost_of) = true)
    (a_p_brought : PySem.W.nsIn K mainGlobals "brought" = some (some (.ref f_p_brought)))
    (l_p_brought : K.lookup f_p_brought = some ⟨oc_p_brought, od_p_brought, .func (PySem.W.fnOf "brought" "brought" (defArgs s_p_brought) (defBody s_p_brought) (defScope s_p_brought) .none kV_p_brought dc_p_brought pm_p_brought an_p_brought cd_p_brought ct_p_brought), sl_p_brought⟩)
    (c_p_brought_ : PySem.W.codeIn K cd_p_brought "brought" = true)
    (k_p_brought_ : PySem.W.keepIn K (.ref f_p_brought) = true)
    (a_l_well : PySem.W.nsIn K mainGlobals "_law_well" = some (some (.ref f_l_well)))
    (l_l_well : K.lookup f_l_well = some ⟨oc_l_well, od_l_well, .func (PySem.W.fnOf "_law_well" "_law_well" (defArgs s_l_well) (defBody s_l_well) (defScope s_l_well) .none kV_l_well dc_l_well pm_l_well an_l_well cd_l_well ct_l_well), sl_l_well⟩)
    (c_l_well_ : PySem.W.codeIn K cd_l_well "_law_well" = true)
    (k_l_well_ : PySem.W.keepIn K (.ref f_l_well) = true)
    (a_l_draw : PySem.W.nsIn K mainGlobals "_law_draw" = some (some (.ref f_l_draw)))
    (l_l_draw : K.lookup f_l_draw = some ⟨oc_l_draw, od_l_draw, .func (PySem.W.fnOf "_law_draw" "_law_draw" (defArgs s_l_draw) (defBody s_l_draw) (defScope s_l_draw) .none kV_l_draw dc_l_draw pm_l_draw an_l_draw cd_l_draw ct_l_draw), sl_l_draw⟩)
    (c_l_draw_ : PySem.W.codeIn K cd_l_draw "_law_draw" = true)
    (k_l_draw_ : PySem.W.keepIn K (.ref f_l_draw) = true)
    (a_l_one : PySem.W.nsIn K mainGlobals "_law_one" = some (some (.ref f_l_one)))
    (l_l_one : K.lookup f_l_one = some ⟨oc_l_one, od_l_one, .func (PySem.W.fnOf "_law_one" "_law_one" (defArgs s_l_one) (defBody s_l_one) (defScope s_l_one) .none kV_l_one dc_l_one pm_l_one an_l_one cd_l_one ct_l_one), sl_l_one⟩)
    (c_l_one_ : PySem.W.codeIn K cd_l_one "_law_one" = true)
    (k_l_one_ : PySem.W.keepIn K (.ref f_l_one) = true)
    (a_l_low : PySem.W.nsIn K mainGlobals "_law_low" = some (some (.ref f_l_low)))
    (l_l_low : K.lookup f_l_low = some ⟨oc_l_low, od_l_low, .func (PySem.W.fnOf "_law_low" "_law_low" (defArgs s_l_low) (defBody s_l_low) (defScope s_l_low) .none kV_l_low dc_l_low pm_l_low an_l_low cd_l_low ct_l_low), sl_l_low⟩)
    (c_l_low_ : PySem.W.codeIn K cd_l_low "_law_low" = true)
    (k_l_low_ : PySem.W.keepIn K (.ref f_l_low) = true)
    (a_l_pair : PySem.W.nsIn K mainGlobals "_law_pair" = some (some (.ref f_l_pair)))
    (l_l_pair : K.lookup f_l_pair = some ⟨oc_l_pair, od_l_pair, .func (PySem.W.fnOf "_law_pair" "_law_pair" (defArgs s_l_pair) (defBody s_l_pair) (defScope s_l_pair) .none kV_l_pair dc_l_pair pm_l_pair an_l_pair cd_l_pair ct_l_pair), sl_l_pair⟩)
    (c_l_pair_ : PySem.W.codeIn K cd_l_pair "_law_pair" = true)
    (k_l_pair_ : PySem.W.keepIn K (.ref f_l_pair) = true)
    (a_l_heap : PySem.W.nsIn K mainGlobals "_law_heap" = some (some (.ref f_l_heap)))
    (l_l_heap : K.lookup f_l_heap = some ⟨oc_l_heap, od_l_heap, .func (PySem.W.fnOf "_law_heap" "_law_heap" (defArgs s_l_heap) (defBody s_l_heap) (defScope s_l_heap) .none kV_l_heap dc_l_heap pm_l_heap an_l_heap cd_l_heap ct_l_heap), sl_l_heap⟩)
    (c_l_heap_ : PySem.W.codeIn K cd_l_heap "_law_heap" = true)
    (k_l_heap_ : PySem.W.keepIn K (.ref f_l_heap) = true)
    (a_l_costs : PySem.W.nsIn K mainGlobals "_law_costs" = some (some (.ref f_l_costs)))
    (l_l_costs : K.lookup f_l_costs = some ⟨oc_l_costs, od_l_costs, .func (PySem.W.fnOf "_law_costs" "_law_costs" (defArgs s_l_costs) (defBody s_l_costs) (defScope s_l_costs) .none kV_l_costs dc_l_costs pm_l_costs an_l_costs cd_l_costs ct_l_costs), sl_l_costs⟩)
    (c_l_costs_ : PySem.W.codeIn K cd_l_costs "_law_costs" = true)
    (k_l_costs_ : PySem.W.keepIn K (.ref f_l_costs) = true)
    (a_l_shares : PySem.W.nsIn K mainGlobals "_law_shares" = some (some (.ref f_l_shares)))
    (l_l_shares : K.lookup f_l_shares = some ⟨oc_l_shares, od_l_shares, .func (PySem.W.fnOf "_law_shares" "_law_shares" (defArgs s_l_shares) (defBody s_l_shares) (defScope s_l_shares) .none kV_l_shares dc_l_shares pm_l_shares an_l_shares cd_l_shares ct_l_shares), sl_l_shares⟩)
    (c_l_shares_ : PySem.W.codeIn K cd_l_shares "_law_shares" = true)
    (k_l_shares_ : PySem.W.keepIn K (.ref f_l_shares) = true)
    (a_l_rows : PySem.W.nsIn K mainGlobals "_law_rows" = some (some (.ref f_l_rows)))
    (l_l_rows : K.lookup f_l_rows = some ⟨oc_l_rows, od_l_rows, .func (PySem.W.fnOf "_law_rows" "_law_rows" (defArgs s_l_rows) (defBody s_l_rows) (defScope s_l_rows) .none kV_l_rows dc_l_rows pm_l_rows an_l_rows cd_l_rows ct_l_rows), sl_l_rows⟩)
    (c_l_rows_ : PySem.W.codeIn K cd_l_rows "_law_rows" = true)
    (k_l_rows_ : PySem.W.keepIn K (.ref f_l_rows) = true)
    (a_l_added : PySem.W.nsIn K mainGlobals "_law_added" = some (some (.ref f_l_added)))
    (l_l_added : K.lookup f_l_added = some ⟨oc_l_added, od_l_added, .func (PySem.W.fnOf "_law_added" "_law_added" (defArgs s_l_added) (defBody s_l_added) (defScope s_l_added) .none kV_l_added dc_l_added pm_l_added an_l_added cd_l_added ct_l_added), sl_l_added⟩)
    (c_l_added_ : PySem.W.codeIn K cd_l_added "_law_added" = true)
    (k_l_added_ : PySem.W.keepIn K (.ref f_l_added) = true)
    (a_l_total : PySem.W.nsIn K mainGlobals "_law_total" = some (some (.ref f_l_total)))
    (l_l_total : K.lookup f_l_total = some ⟨oc_l_total, od_l_total, .func (PySem.W.fnOf "_law_total" "_law_total" (defArgs s_l_total) (defBody s_l_total) (defScope s_l_total) .none kV_l_total dc_l_total pm_l_total an_l_total cd_l_total ct_l_total), sl_l_total⟩)
    (c_l_total_ : PySem.W.codeIn K cd_l_total "_law_total" = true)
    (k_l_total_ : PySem.W.keepIn K (.ref f_l_total) = true)
    (a_l_by : PySem.W.nsIn K mainGlobals "_law_by" = some (some (.ref f_l_by)))
    (l_l_by : K.lookup f_l_by = some ⟨oc_l_by, od_l_by, .func (PySem.W.fnOf "_law_by" "_law_by" (defArgs s_l_by) (defBody s_l_by) (defScope s_l_by) .none kV_l_by dc_l_by pm_l_by an_l_by cd_l_by ct_l_by), sl_l_by⟩)
    (c_l_by_ : PySem.W.codeIn K cd_l_by "_law_by" = true)
    (k_l_by_ : PySem.W.keepIn K (.ref f_l_by) = true)
    (a_l_below : PySem.W.nsIn K mainGlobals "_law_below" = some (some (.ref f_l_below)))
    (l_l_below : K.lookup f_l_below = some ⟨oc_l_below, od_l_below, .func (PySem.W.fnOf "_law_below" "_law_below" (defArgs s_l_below) (defBody s_l_below) (defScope s_l_below) .none kV_l_below dc_l_below pm_l_below an_l_below cd_l_below ct_l_below), sl_l_below⟩)
    (c_l_below_ : PySem.W.codeIn K cd_l_below "_law_below" = true)
    (k_l_below_ : PySem.W.keepIn K (.ref f_l_below) = true)
    (a_l_filled : PySem.W.nsIn K mainGlobals "_law_filled" = some (some (.ref f_l_filled)))
    (l_l_filled : K.lookup f_l_filled = some ⟨oc_l_filled, od_l_filled, .func (PySem.W.fnOf "_law_filled" "_law_filled" (defArgs s_l_filled) (defBody s_l_filled) (defScope s_l_filled) .none kV_l_filled dc_l_filled pm_l_filled an_l_filled cd_l_filled ct_l_filled), sl_l_filled⟩)
    (c_l_filled_ : PySem.W.codeIn K cd_l_filled "_law_filled" = true)
    (k_l_filled_ : PySem.W.keepIn K (.ref f_l_filled) = true)
    (a_l_cost : PySem.W.nsIn K mainGlobals "_law_cost" = some (some (.ref f_l_cost)))
    (l_l_cost : K.lookup f_l_cost = some ⟨oc_l_cost, od_l_cost, .func (PySem.W.fnOf "_law_cost" "_law_cost" (defArgs s_l_cost) (defBody s_l_cost) (defScope s_l_cost) .none kV_l_cost dc_l_cost pm_l_cost an_l_cost cd_l_cost ct_l_cost), sl_l_cost⟩)
    (c_l_cost_ : PySem.W.codeIn K cd_l_cost "_law_cost" = true)
    (k_l_cost_ : PySem.W.keepIn K (.ref f_l_cost) = true)
    (a_l_less : PySem.W.nsIn K mainGlobals "_law_less" = some (some (.ref f_l_less)))
    (l_l_less : K.lookup f_l_less = some ⟨oc_l_less, od_l_less, .func (PySem.W.fnOf "_law_less" "_law_less" (defArgs s_l_less) (defBody s_l_less) (defScope s_l_less) .none kV_l_less dc_l_less pm_l_less an_l_less cd_l_less ct_l_less), sl_l_less⟩)
    (c_l_less_ : PySem.W.codeIn K cd_l_less "_law_less" = true)
    (k_l_less_ : PySem.W.keepIn K (.ref f_l_less) = true)
    (a_l_prices : PySem.W.nsIn K mainGlobals "_law_prices" = some (some (.ref f_l_prices)))
    (l_l_prices : K.lookup f_l_prices = some ⟨oc_l_prices, od_l_prices, .func (PySem.W.fnOf "_law_prices" "_law_prices" (defArgs s_l_prices) (defBody s_l_prices) (defScope s_l_prices) .none kV_l_prices dc_l_prices pm_l_prices an_l_prices cd_l_prices ct_l_prices), sl_l_prices⟩)
    (c_l_prices_ : PySem.W.codeIn K cd_l_prices "_law_prices" = true)
    (k_l_prices_ : PySem.W.keepIn K (.ref f_l_prices) = true)
    (a_l_due : PySem.W.nsIn K mainGlobals "_law_due" = some (some (.ref f_l_due)))
    (l_l_due : K.lookup f_l_due = some ⟨oc_l_due, od_l_due, .func (PySem.W.fnOf "_law_due" "_law_due" (defArgs s_l_due) (defBody s_l_due) (defScope s_l_due) .none kV_l_due dc_l_due pm_l_due an_l_due cd_l_due ct_l_due), sl_l_due⟩)
    (c_l_due_ : PySem.W.codeIn K cd_l_due "_law_due" = true)
    (k_l_due_ : PySem.W.keepIn K (.ref f_l_due) = true)
    (a_l_otherwise : PySem.W.nsIn K mainGlobals "_law_otherwise" = some (some (.ref f_l_otherwise)))
    (l_l_otherwise : K.lookup f_l_otherwise = some ⟨oc_l_otherwise, od_l_otherwise, .func (PySem.W.fnOf "_law_otherwise" "_law_otherwise" (defArgs s_l_otherwise) (defBody s_l_otherwise) (defScope s_l_otherwise) .none kV_l_otherwise dc_l_otherwise pm_l_otherwise an_l_otherwise cd_l_otherwise ct_l_otherwise), sl_l_otherwise⟩)
    (c_l_otherwise_ : PySem.W.codeIn K cd_l_otherwise "_law_otherwise" = true)
    (k_l_otherwise_ : PySem.W.keepIn K (.ref f_l_otherwise) = true)
    (a_l_made : PySem.W.nsIn K mainGlobals "_law_made" = some (some (.ref f_l_made)))
    (l_l_made : K.lookup f_l_made = some ⟨oc_l_made, od_l_made, .func (PySem.W.fnOf "_law_made" "_law_made" (defArgs s_l_made) (defBody s_l_made) (defScope s_l_made) .none kV_l_made dc_l_made pm_l_made an_l_made cd_l_made ct_l_made), sl_l_made⟩)
    (c_l_made_ : PySem.W.codeIn K cd_l_made "_law_made" = true)
    (k_l_made_ : PySem.W.keepIn K (.ref f_l_made) = true)
    (a_l_summed : PySem.W.nsIn K mainGlobals "_law_summed" = some (some (.ref f_l_summed)))
    (l_l_summed : K.lookup f_l_summed = some ⟨oc_l_summed, od_l_summed, .func (PySem.W.fnOf "_law_summed" "_law_summed" (defArgs s_l_summed) (defBody s_l_summed) (defScope s_l_summed) .none kV_l_summed dc_l_summed pm_l_summed an_l_summed cd_l_summed ct_l_summed), sl_l_summed⟩)
    (c_l_summed_ : PySem.W.codeIn K cd_l_summed "_law_summed" = true)
    (k_l_summed_ : PySem.W.keepIn K (.ref f_l_summed) = true)
    (a_law : PySem.W.nsIn K mainGlobals "law" = some (some (.ref f_law)))
    (l_law : K.lookup f_law = some ⟨oc_law, od_law, .func (PySem.W.fnOf "law" "law" (defArgs s_law) (defBody s_law) (defScope s_law) .none kV_law dc_law pm_law an_law cd_law ct_law), sl_law⟩)
    (c_law_ : PySem.W.codeIn K cd_law "law" = true)
    (k_law_ : PySem.W.keepIn K (.ref f_law) = true)
    (pg_Share : PySem.W.plainGet K c_Share Str.empty = true)
    (hd_Share : PySem.W.hasDictIn K c_Share = true)
    (po_Share : PySem.W.plainOver K c_Share = true)
    (sa_Share : PySem.W.findIn K (.ref c_Share) "__setattr__" = some (some (.builtin "object.__setattr__")))
    (mk_Share : PySem.W.makesIn K c_Share = true)
    (kc_Share : PySem.W.keepIn K (.ref c_Share) = true)
    (if_Share : PySem.W.isFn K (.ref f_m_Share_init) = true)
    (ha_Share : PySem.W.findIn K (.ref c_Share) "__class__" = some (some (.builtin "object.__class__")))
    (hn_Share : PySem.W.specialIn K (.builtin "object.__class__") "__get__" = some (some (.builtin "getset_descriptor.__get__")))
    (ht_Share : PySem.W.takesIn K (.builtin "object.__class__") = some true)
    (hm_Share : PySem.W.mroIn K c_Share (.type "object") = some true)
    (n_Share_top : PySem.W.findIn K (.ref c_Share) "top" = some none)
    (n_Share_bottom : PySem.W.findIn K (.ref c_Share) "bottom" = some none)
    (i_m_Share_eq : PySem.W.isFn K (.ref f_m_Share_eq) = true)
    (i_m_Share_str : PySem.W.isFn K (.ref f_m_Share_str) = true)
    (nn_Share : PySem.W.findIn K (.ref c_Share) "__ne__" = some (some (.builtin "object.__ne__")))
    (nf_Share_int : PySem.W.notFirst K c_Share (.type "int") = true)
    (nf_Share_str : PySem.W.notFirst K c_Share (.type "str") = true)
    (nf_Share_NoneType : PySem.W.notFirst K c_Share (.type "NoneType") = true)
    (nf_Share_list : PySem.W.notFirst K c_Share (.type "list") = true)
    (nf_Share_tuple : PySem.W.notFirst K c_Share (.type "tuple") = true)
    (nf_Share_dict : PySem.W.notFirst K c_Share (.type "dict") = true)
    (nf_Share_bool : PySem.W.notFirst K c_Share (.type "bool") = true)
    (ko_Share : PySem.W.kitOne K (.ref c_Share) (.ref c_Share) = some true)
    (ko_Share_int : PySem.W.kitOne K (.type "int") (.ref c_Share) = some false)
    (ko_Share_str : PySem.W.kitOne K (.type "str") (.ref c_Share) = some false)
    (ko_Share_NoneType : PySem.W.kitOne K (.type "NoneType") (.ref c_Share) = some false)
    (ko_Share_list : PySem.W.kitOne K (.type "list") (.ref c_Share) = some false)
    (ko_Share_tuple : PySem.W.kitOne K (.type "tuple") (.ref c_Share) = some false)
    (ko_Share_dict : PySem.W.kitOne K (.type "dict") (.ref c_Share) = some false)
    (ko_Share_bool : PySem.W.kitOne K (.type "bool") (.ref c_Share) = some false)
    (ac_PIECE_LENGTH : PySem.W.nsIn K mainGlobals "PIECE_LENGTH" = some (some (Value.int 64 tkc_PIECE_LENGTH)))
    (zz_divmod : PySem.W.nsIn K mainGlobals "divmod" = some none)
    (zz_str : PySem.W.nsIn K mainGlobals "str" = some none)
    (zz_isinstance : PySem.W.nsIn K mainGlobals "isinstance" = some none)
    (zz_int : PySem.W.nsIn K mainGlobals "int" = some none)
    (zz_bool : PySem.W.nsIn K mainGlobals "bool" = some none)
    (zz_abs : PySem.W.nsIn K mainGlobals "abs" = some none)
    (zz_list : PySem.W.nsIn K mainGlobals "list" = some none)
    (zz_all : PySem.W.nsIn K mainGlobals "all" = some none)
    (zz_len : PySem.W.nsIn K mainGlobals "len" = some none)
    (zz_tuple : PySem.W.nsIn K mainGlobals "tuple" = some none)
    (zz_enumerate : PySem.W.nsIn K mainGlobals "enumerate" = some none)
    (zz_sum : PySem.W.nsIn K mainGlobals "sum" = some none)
    (zz_zip : PySem.W.nsIn K mainGlobals "zip" = some none)
    (zz_range : PySem.W.nsIn K mainGlobals "range" = some none)
    (zz_max : PySem.W.nsIn K mainGlobals "max" = some none)
    (fact_kit_Share_list : PySem.W.kitOne K (.ref c_Share) (.type "list") = some false)
    (fact_kit_Share_tuple : PySem.W.kitOne K (.ref c_Share) (.type "tuple") = some false)
    : ∃ fd : FuncData, (∀ (s : Shared) (v : Value), BindsTo s fd ⟨[v], []⟩ [("_law_script", v)]) ∧ ∀ base : Heap, K.In base → base.Ns mainGlobals mg → FnOk l.prog w K mg base CX0 14 fa fd ["_law_script"] (spLaw K) := by
  have e := hfa.symm.trans (PySem.W.mg_of X G a_law)
  cases e
  have F_p_written := fun_mk (st := s_p_written) l_p_written c_p_written_ k_p_written_
  have b_p_written := F_p_written.binds (ps := ["number"]) fun _ _ _ _ _ _ us hl => match us, hl with | [_], _ => rfl
  have F_p_is_whole := fun_mk (st := s_p_is_whole) l_p_is_whole c_p_is_whole_ k_p_is_whole_
  have b_p_is_whole := F_p_is_whole.binds (ps := ["thing"]) fun _ _ _ _ _ _ us hl => match us, hl with | [_], _ => rfl
  have F_m_Share_init : FunD K "__init__" "Share.__init__" (defArgs s_m_Share_init) (defBody s_m_Share_init) (defScope s_m_Share_init) [.int 1] [] f_m_Share_init (PySem.W.fnOf "__init__" "Share.__init__" (defArgs s_m_Share_init) (defBody s_m_Share_init) (defScope s_m_Share_init) (.ref t_m_Share_init) kV_m_Share_init dc_m_Share_init pm_m_Share_init an_m_Share_init cd_m_Share_init ct_m_Share_init) := ⟨⟨_, _, _, _, _, _, _, _, _, _, rfl, l_m_Share_init, c_m_Share_init_, .inr ⟨by simp, t_m_Share_init, _, _, _, rfl, lt_m_Share_init, rfl, (.cons ⟨_, rfl⟩ .nil)⟩, .inl rfl⟩, k_m_Share_init_⟩
  have b_m_Share_init : Binds K (PySem.W.fnOf "__init__" "Share.__init__" (defArgs s_m_Share_init) (defBody s_m_Share_init) (defScope s_m_Share_init) (.ref t_m_Share_init) kV_m_Share_init dc_m_Share_init pm_m_Share_init an_m_Share_init cd_m_Share_init ct_m_Share_init) ["self", "top", "bottom"] [] := by
    obtain ⟨ds, v0, b0⟩ := F_m_Share_init.binds1 (ps := ["self", "top", "bottom"]) 3 1 (by simp) rfl fun _ _ _ _ _ _ _ us its h1 h2 => match us, its, h1, h2 with | [_, _, _], [_], _, _ => ⟨_, rfl, rfl⟩
    cases v0
    exact b0
  have e_m_Share_init : ∃ ds, Vals [.int 1] ds ∧ Binds K (PySem.W.fnOf "__init__" "Share.__init__" (defArgs s_m_Share_init) (defBody s_m_Share_init) (defScope s_m_Share_init) (.ref t_m_Share_init) kV_m_Share_init dc_m_Share_init pm_m_Share_init an_m_Share_init cd_m_Share_init ct_m_Share_init) ["self", "top", "bottom"] ds := F_m_Share_init.binds1 2 0 (by simp) rfl fun _ _ _ _ _ _ _ us its h1 h2 => match us, its, h1, h2 with | [_, _], [_], _, _ => ⟨_, rfl, rfl⟩
  have F_m_Share_eq := fun_mk (st := s_m_Share_eq) l_m_Share_eq c_m_Share_eq_ k_m_Share_eq_
  have b_m_Share_eq := F_m_Share_eq.binds (ps := ["self", "other"]) fun _ _ _ _ _ _ us hl => match us, hl with | [_, _], _ => rfl
  have F_m_Share_str := fun_mk (st := s_m_Share_str) l_m_Share_str c_m_Share_str_ k_m_Share_str_
  have b_m_Share_str := F_m_Share_str.binds (ps := ["self"]) fun _ _ _ _ _ _ us hl => match us, hl with | [_], _ => rfl
  have F_p_common_part := fun_mk (st := s_p_common_part) l_p_common_part c_p_common_part_ k_p_common_part_
  have b_p_common_part := F_p_common_part.binds (ps := ["one", "other"]) fun _ _ _ _ _ _ us hl => match us, hl with | [_, _], _ => rfl
  have F_p_common_multiple := fun_mk (st := s_p_common_multiple) l_p_common_multiple c_p_common_multiple_ k_p_common_multiple_
  have b_p_common_multiple := F_p_common_multiple.binds (ps := ["one", "other"]) fun _ _ _ _ _ _ us hl => match us, hl with | [_, _], _ => rfl
  have F_p_common_bottom := fun_mk (st := s_p_common_bottom) l_p_common_bottom c_p_common_bottom_ k_p_common_bottom_
  have b_p_common_bottom := F_p_common_bottom.binds (ps := ["shares"]) fun _ _ _ _ _ _ us hl => match us, hl with | [_], _ => rfl
  have F_p_tops_over := fun_mk (st := s_p_tops_over) l_p_tops_over c_p_tops_over_ k_p_tops_over_
  have b_p_tops_over := F_p_tops_over.binds (ps := ["bottom", "shares"]) fun _ _ _ _ _ _ us hl => match us, hl with | [_, _], _ => rfl
  have F_p_minus := fun_mk (st := s_p_minus) l_p_minus c_p_minus_ k_p_minus_
  have b_p_minus := F_p_minus.binds (ps := ["one", "other"]) fun _ _ _ _ _ _ us hl => match us, hl with | [_, _], _ => rfl
  have F_p_are_shares := fun_mk (st := s_p_are_shares) l_p_are_shares c_p_are_shares_ k_p_are_shares_
  have b_p_are_shares := F_p_are_shares.binds (ps := ["thing", "many"]) fun _ _ _ _ _ _ us hl => match us, hl with | [_, _], _ => rfl
  have F_p_are_prices := fun_mk (st := s_p_are_prices) l_p_are_prices c_p_are_prices_ k_p_are_prices_
  have b_p_are_prices := F_p_are_prices.binds (ps := ["thing", "costs"]) fun _ _ _ _ _ _ us hl => match us, hl with | [_, _], _ => rfl
  have F_p_joined := fun_mk (st := s_p_joined) l_p_joined c_p_joined_ k_p_joined_
  have b_p_joined := F_p_joined.binds (ps := ["rows"]) fun _ _ _ _ _ _ us hl => match us, hl with | [_], _ => rfl
  have F_p_weighed := fun_mk (st := s_p_weighed) l_p_weighed c_p_weighed_ k_p_weighed_
  have b_p_weighed := F_p_weighed.binds (ps := ["shares", "others"]) fun _ _ _ _ _ _ us hl => match us, hl with | [_, _], _ => rfl
  have F_p_cost_of := fun_mk (st := s_p_cost_of) l_p_cost_of c_p_cost_of_ k_p_cost_of_
  have b_p_cost_of := F_p_cost_of.binds (ps := ["costs", "plan"]) fun _ _ _ _ _ _ us hl => match us, hl with | [_, _], _ => rfl
  have F_p_brought := fun_mk (st := s_p_brought) l_p_brought c_p_brought_ k_p_brought_
  have b_p_brought := F_p_brought.binds (ps := ["prices", "first", "second"]) fun _ _ _ _ _ _ us hl => match us, hl with | [_, _, _], _ => rfl
  have F_l_well := fun_mk (st := s_l_well) l_l_well c_l_well_ k_l_well_
  have b_l_well := F_l_well.binds (ps := ["_law_cell"]) fun _ _ _ _ _ _ us hl => match us, hl with | [_], _ => rfl
  have F_l_draw := fun_mk (st := s_l_draw) l_l_draw c_l_draw_ k_l_draw_
  have b_l_draw := F_l_draw.binds (ps := ["_law_well_here", "_law_many"]) fun _ _ _ _ _ _ us hl => match us, hl with | [_, _], _ => rfl
  have F_l_one := fun_mk (st := s_l_one) l_l_one c_l_one_ k_l_one_
  have b_l_one := F_l_one.binds (ps := ["_law_well_here", "_law_some"]) fun _ _ _ _ _ _ us hl => match us, hl with | [_, _], _ => rfl
  have F_l_low := fun_mk (st := s_l_low) l_l_low c_l_low_ k_l_low_
  have b_l_low := F_l_low.binds (ps := ["_law_top", "_law_bottom"]) fun _ _ _ _ _ _ us hl => match us, hl with | [_, _], _ => rfl
  have F_l_pair := fun_mk (st := s_l_pair) l_l_pair c_l_pair_ k_l_pair_
  have b_l_pair := F_l_pair.binds (ps := ["_law_share"]) fun _ _ _ _ _ _ us hl => match us, hl with | [_], _ => rfl
  have F_l_heap := fun_mk (st := s_l_heap) l_l_heap c_l_heap_ k_l_heap_
  have b_l_heap := F_l_heap.binds (ps := ["_law_well_here", "_law_many"]) fun _ _ _ _ _ _ us hl => match us, hl with | [_, _], _ => rfl
  have F_l_costs := fun_mk (st := s_l_costs) l_l_costs c_l_costs_ k_l_costs_
  have b_l_costs := F_l_costs.binds (ps := ["_law_well_here", "_law_here", "_law_there"]) fun _ _ _ _ _ _ us hl => match us, hl with | [_, _, _], _ => rfl
  have F_l_shares := fun_mk (st := s_l_shares) l_l_shares c_l_shares_ k_l_shares_
  have b_l_shares := F_l_shares.binds (ps := ["_law_pairs"]) fun _ _ _ _ _ _ us hl => match us, hl with | [_], _ => rfl
  have F_l_rows := fun_mk (st := s_l_rows) l_l_rows c_l_rows_ k_l_rows_
  have b_l_rows := F_l_rows.binds (ps := ["_law_rows_here"]) fun _ _ _ _ _ _ us hl => match us, hl with | [_], _ => rfl
  have F_l_added := fun_mk (st := s_l_added) l_l_added c_l_added_ k_l_added_
  have b_l_added := F_l_added.binds (ps := ["_law_one_here", "_law_other"]) fun _ _ _ _ _ _ us hl => match us, hl with | [_, _], _ => rfl
  have F_l_total := fun_mk (st := s_l_total) l_l_total c_l_total_ k_l_total_
  have b_l_total := F_l_total.binds (ps := ["_law_pairs"]) fun _ _ _ _ _ _ us hl => match us, hl with | [_], _ => rfl
  have F_l_by := fun_mk (st := s_l_by) l_l_by c_l_by_ k_l_by_
  have b_l_by := F_l_by.binds (ps := ["_law_one_here", "_law_other"]) fun _ _ _ _ _ _ us hl => match us, hl with | [_, _], _ => rfl
  have F_l_below := fun_mk (st := s_l_below) l_l_below c_l_below_ k_l_below_
  have b_l_below := F_l_below.binds (ps := ["_law_one_here", "_law_other"]) fun _ _ _ _ _ _ us hl => match us, hl with | [_, _], _ => rfl
  have F_l_filled := fun_mk (st := s_l_filled) l_l_filled c_l_filled_ k_l_filled_
  have b_l_filled := F_l_filled.binds (ps := ["_law_well_here", "_law_first", "_law_second"]) fun _ _ _ _ _ _ us hl => match us, hl with | [_, _, _], _ => rfl
  have F_l_cost := fun_mk (st := s_l_cost) l_l_cost c_l_cost_ k_l_cost_
  have b_l_cost := F_l_cost.binds (ps := ["_law_costs_here", "_law_plan"]) fun _ _ _ _ _ _ us hl => match us, hl with | [_, _], _ => rfl
  have F_l_less := fun_mk (st := s_l_less) l_l_less c_l_less_ k_l_less_
  have b_l_less := F_l_less.binds (ps := ["_law_one_here", "_law_other"]) fun _ _ _ _ _ _ us hl => match us, hl with | [_, _], _ => rfl
  have F_l_prices := fun_mk (st := s_l_prices) l_l_prices c_l_prices_ k_l_prices_
  have b_l_prices := F_l_prices.binds (ps := ["_law_well_here", "_law_costs_here"]) fun _ _ _ _ _ _ us hl => match us, hl with | [_, _], _ => rfl
  have F_l_due := fun_mk (st := s_l_due) l_l_due c_l_due_ k_l_due_
  have b_l_due := F_l_due.binds (ps := ["_law_costs_here", "_law_prices_here"]) fun _ _ _ _ _ _ us hl => match us, hl with | [_, _], _ => rfl
  have F_l_otherwise := fun_mk (st := s_l_otherwise) l_l_otherwise c_l_otherwise_ k_l_otherwise_
  have b_l_otherwise := F_l_otherwise.binds (ps := ["_law_well_here", "_law_prices_here"]) fun _ _ _ _ _ _ us hl => match us, hl with | [_, _], _ => rfl
  have F_l_made := fun_mk (st := s_l_made) l_l_made c_l_made_ k_l_made_
  have b_l_made := F_l_made.binds (ps := ["_law_prices_here"]) fun _ _ _ _ _ _ us hl => match us, hl with | [_], _ => rfl
  have F_l_summed := fun_mk (st := s_l_summed) l_l_summed c_l_summed_ k_l_summed_
  have b_l_summed := F_l_summed.binds (ps := ["_law_well_here", "_law_costs_here", "_law_heaps", "_law_prices_here"]) fun _ _ _ _ _ _ us hl => match us, hl with | [_, _, _, _], _ => rfl
  have F_law := fun_mk (st := s_law) l_law c_law_ k_law_
  have b_law := F_law.binds (ps := ["_law_script"]) fun _ _ _ _ _ _ us hl => match us, hl with | [_], _ => rfl
  exact ⟨PySem.W.fnOf "law" "law" (defArgs s_law) (defBody s_law) (defScope s_law) .none kV_law dc_law pm_law an_law cd_law ct_law, fun s v => .of_eq rfl, fun base _ _ => ok_law (⟨c_FarError, (PySem.W.mg_of X G a_FarError), c_NoShare, (PySem.W.mg_of X G a_NoShare), c_Share, (PySem.W.mg_of X G a_Share), f_p_written, _, F_p_written, b_p_written, (PySem.W.mg_of X G a_p_written), f_p_is_whole, _, F_p_is_whole, b_p_is_whole, (PySem.W.mg_of X G a_p_is_whole), f_m_Share_init, _, F_m_Share_init, b_m_Share_init, e_m_Share_init, f_m_Share_eq, _, F_m_Share_eq, b_m_Share_eq, f_m_Share_str, _, F_m_Share_str, b_m_Share_str, f_p_common_part, _, F_p_common_part, b_p_common_part, (PySem.W.mg_of X G a_p_common_part), f_p_common_multiple, _, F_p_common_multiple, b_p_common_multiple, (PySem.W.mg_of X G a_p_common_multiple), f_p_common_bottom, _, F_p_common_bottom, b_p_common_bottom, (PySem.W.mg_of X G a_p_common_bottom), f_p_tops_over, _, F_p_tops_over, b_p_tops_over, (PySem.W.mg_of X G a_p_tops_over), f_p_minus, _, F_p_minus, b_p_minus, (PySem.W.mg_of X G a_p_minus), f_p_are_shares, _, F_p_are_shares, b_p_are_shares, (PySem.W.mg_of X G a_p_are_shares), f_p_are_prices, _, F_p_are_prices, b_p_are_prices, (PySem.W.mg_of X G a_p_are_prices), f_p_joined, _, F_p_joined, b_p_joined, (PySem.W.mg_of X G a_p_joined), f_p_weighed, _, F_p_weighed, b_p_weighed, (PySem.W.mg_of X G a_p_weighed), f_p_cost_of, _, F_p_cost_of, b_p_cost_of, (PySem.W.mg_of X G a_p_cost_of), f_p_brought, _, F_p_brought, b_p_brought, (PySem.W.mg_of X G a_p_brought), f_l_well, _, F_l_well, b_l_well, (PySem.W.mg_of X G a_l_well), f_l_draw, _, F_l_draw, b_l_draw, (PySem.W.mg_of X G a_l_draw), f_l_one, _, F_l_one, b_l_one, (PySem.W.mg_of X G a_l_one), f_l_low, _, F_l_low, b_l_low, (PySem.W.mg_of X G a_l_low), f_l_pair, _, F_l_pair, b_l_pair, (PySem.W.mg_of X G a_l_pair), f_l_heap, _, F_l_heap, b_l_heap, (PySem.W.mg_of X G a_l_heap), f_l_costs, _, F_l_costs, b_l_costs, (PySem.W.mg_of X G a_l_costs), f_l_shares, _, F_l_shares, b_l_shares, (PySem.W.mg_of X G a_l_shares), f_l_rows, _, F_l_rows, b_l_rows, (PySem.W.mg_of X G a_l_rows), f_l_added, _, F_l_added, b_l_added, (PySem.W.mg_of X G a_l_added), f_l_total, _, F_l_total, b_l_total, (PySem.W.mg_of X G a_l_total), f_l_by, _, F_l_by, b_l_by, (PySem.W.mg_of X G a_l_by), f_l_below, _, F_l_below, b_l_below, (PySem.W.mg_of X G a_l_below), f_l_filled, _, F_l_filled, b_l_filled, (PySem.W.mg_of X G a_l_filled), f_l_cost, _, F_l_cost, b_l_cost, (PySem.W.mg_of X G a_l_cost), f_l_less, _, F_l_less, b_l_less, (PySem.W.mg_of X G a_l_less), f_l_prices, _, F_l_prices, b_l_prices, (PySem.W.mg_of X G a_l_prices), f_l_due, _, F_l_due, b_l_due, (PySem.W.mg_of X G a_l_due), f_l_otherwise, _, F_l_otherwise, b_l_otherwise, (PySem.W.mg_of X G a_l_otherwise), f_l_made, _, F_l_made, b_l_made, (PySem.W.mg_of X G a_l_made), f_l_summed, _, F_l_summed, b_l_summed, (PySem.W.mg_of X G a_l_summed), _, _, F_law, b_law, (PySem.W.mg_of X G a_law), ⟨pg_Share, hd_Share, po_Share, sa_Share⟩, ⟨mk_Share, a_m_Share_init, if_Share, kc_Share⟩, ⟨ha_Share, hn_Share, ht_Share, hm_Share⟩, n_Share_top, n_Share_bottom, ⟨a_m_Share_eq, i_m_Share_eq, k_m_Share_eq_⟩, ⟨a_m_Share_str, i_m_Share_str, k_m_Share_str_⟩, nn_Share, nf_Share_int, nf_Share_str, nf_Share_NoneType, nf_Share_list, nf_Share_tuple, nf_Share_dict, nf_Share_bool, ko_Share, ko_Share_int, ko_Share_str, ko_Share_NoneType, ko_Share_list, ko_Share_tuple, ko_Share_dict, ko_Share_bool, _, (PySem.W.mg_of X G ac_PIECE_LENGTH), ⟨_, rfl⟩, (PySem.W.mg_none_of X G zz_divmod), (PySem.W.mg_none_of X G zz_str), (PySem.W.mg_none_of X G zz_isinstance), (PySem.W.mg_none_of X G zz_int), (PySem.W.mg_none_of X G zz_bool), (PySem.W.mg_none_of X G zz_abs), (PySem.W.mg_none_of X G zz_list), (PySem.W.mg_none_of X G zz_all), (PySem.W.mg_none_of X G zz_len), (PySem.W.mg_none_of X G zz_tuple), (PySem.W.mg_none_of X G zz_enumerate), (PySem.W.mg_none_of X G zz_sum), (PySem.W.mg_none_of X G zz_zip), (PySem.W.mg_none_of X G zz_range), (PySem.W.mg_none_of X G zz_max), fact_kit_Share_list, fact_kit_Share_tuple⟩ : Txt K mg)⟩
end Fb
open PySem PySem.W PyProof.Rows
set_option maxRecDepth 100000 in
set_option maxHeartbeats 0 in
theorem PySem.Challenge.cw_farbetween_k12_prices_judged_holds : PySem.Challenge.rw_farbetween_k12_prices_judged.Holds := by
  w_on; o_law; k_head; (case hw => w_witness2)
  k_fill
  refine L2.walk_of (l := PySem.Challenge.rw_farbetween_k12_prices_judged) (n := 63) (k := 14) (x := "_law_script") (CX := fun _ => L2.CX0) (sp := fun w => Fb.spLaw _) rfl (by decide) rfl ⟨rfl, by decide, by decide⟩ (fun w h Y => PySem.W.kIn_of Y) ?F (fun _ _ a ns hl _ hS => ⟨a, ns, rfl, hS, hl, fun _ => rfl⟩) (fun _ _ _ _ _ h => h)
  case F =>
    intro w mg fa h KX G hmg
    refine' Fb.all_mk KX G hmg ?a_FarError ?a_NoShare ?a_Share ?a_p_written ?l_p_written ?c_p_written_ ?k_p_written_ ?a_p_is_whole ?l_p_is_whole ?c_p_is_whole_ ?k_p_is_whole_ ?a_m_Share_init ?l_m_Share_init ?lt_m_Share_init ?c_m_Share_init_ ?k_m_Share_init_ ?a_m_Share_eq ?l_m_Share_eq ?c_m_Share_eq_ ?k_m_Share_eq_ ?a_m_Share_str ?l_m_Share_str ?c_m_Share_str_ ?k_m_Share_str_ ?a_p_common_part ?l_p_common_part ?c_p_common_part_ ?k_p_common_part_ ?a_p_common_multiple ?l_p_common_multiple ?c_p_common_multiple_ ?k_p_common_multiple_ ?a_p_common_bottom ?l_p_common_bottom ?c_p_common_bottom_ ?k_p_common_bottom_ ?a_p_tops_over ?l_p_tops_over ?c_p_tops_over_ ?k_p_tops_over_ ?a_p_minus ?l_p_minus ?c_p_minus_ ?k_p_minus_ ?a_p_are_shares ?l_p_are_shares ?c_p_are_shares_ ?k_p_are_shares_ ?a_p_are_prices ?l_p_are_prices ?c_p_are_prices_ ?k_p_are_prices_ ?a_p_joined ?l_p_joined ?c_p_joined_ ?k_p_joined_ ?a_p_weighed ?l_p_weighed ?c_p_weighed_ ?k_p_weighed_ ?a_p_cost_of ?l_p_cost_of ?c_p_cost_of_ ?k_p_cost_of_ ?a_p_brought ?l_p_brought ?c_p_brought_ ?k_p_brought_ ?a_l_well ?l_l_well ?c_l_well_ ?k_l_well_ ?a_l_draw ?l_l_draw ?c_l_draw_ ?k_l_draw_ ?a_l_one ?l_l_one ?c_l_one_ ?k_l_one_ ?a_l_low ?l_l_low ?c_l_low_ ?k_l_low_ ?a_l_pair ?l_l_pair ?c_l_pair_ ?k_l_pair_ ?a_l_heap ?l_l_heap ?c_l_heap_ ?k_l_heap_ ?a_l_costs ?l_l_costs ?c_l_costs_ ?k_l_costs_ ?a_l_shares ?l_l_shares ?c_l_shares_ ?k_l_shares_ ?a_l_rows ?l_l_rows ?c_l_rows_ ?k_l_rows_ ?a_l_added ?l_l_added ?c_l_added_ ?k_l_added_ ?a_l_total ?l_l_total ?c_l_total_ ?k_l_total_ ?a_l_by ?l_l_by ?c_l_by_ ?k_l_by_ ?a_l_below ?l_l_below ?c_l_below_ ?k_l_below_ ?a_l_filled ?l_l_filled ?c_l_filled_ ?k_l_filled_ ?a_l_cost ?l_l_cost ?c_l_cost_ ?k_l_cost_ ?a_l_less ?l_l_less ?c_l_less_ ?k_l_less_ ?a_l_prices ?l_l_prices ?c_l_prices_ ?k_l_prices_ ?a_l_due ?l_l_due ?c_l_due_ ?k_l_due_ ?a_l_otherwise ?l_l_otherwise ?c_l_otherwise_ ?k_l_otherwise_ ?a_l_made ?l_l_made ?c_l_made_ ?k_l_made_ ?a_l_summed ?l_l_summed ?c_l_summed_ ?k_l_summed_ ?a_law ?l_law ?c_law_ ?k_law_ ?pg_Share ?hd_Share ?po_Share ?sa_Share ?mk_Share ?kc_Share ?if_Share ?ha_Share ?hn_Share ?ht_Share ?hm_Share ?n_Share_top ?n_Share_bottom ?i_m_Share_eq ?i_m_Share_str ?nn_Share ?nf_Share_int ?nf_Share_str ?nf_Share_NoneType ?nf_Share_list ?nf_Share_tuple ?nf_Share_dict ?nf_Share_bool ?ko_Share ?ko_Share_int ?ko_Share_str ?ko_Share_NoneType ?ko_Share_list ?ko_Share_tuple ?ko_Share_dict ?ko_Share_bool ?ac_PIECE_LENGTH ?zz_divmod ?zz_str ?zz_isinstance ?zz_int ?zz_bool ?zz_abs ?zz_list ?zz_all ?zz_len ?zz_tuple ?zz_enumerate ?zz_sum ?zz_zip ?zz_range ?zz_max ?fact_kit_Share_list ?fact_kit_Share_tuple
    (case a_FarError => k_is)
    (case a_NoShare => k_is)
    (case a_Share => k_is)
    (case a_p_written => k_is)
    (case l_p_written => k_is)
    (case c_p_written_ => k_is)
    (case k_p_written_ => k_is)
    (case a_p_is_whole => k_is)
    (case l_p_is_whole => k_is)
    (case c_p_is_whole_ => k_is)
    (case k_p_is_whole_ => k_is)
    (case a_m_Share_init => k_is)
    (case l_m_Share_init => k_is)
    (case lt_m_Share_init => k_is)
    (case c_m_Share_init_ => k_is)
    (case k_m_Share_init_ => k_is)
    (case a_m_Share_eq => k_is)
    (case l_m_Share_eq => k_is)
    (case c_m_Share_eq_ => k_is)
    (case k_m_Share_eq_ => k_is)
    (case a_m_Share_str => k_is)
    (case l_m_Share_str => k_is)
    (case c_m_Share_str_ => k_is)
    (case k_m_Share_str_ => k_is)
    (case a_p_common_part => k_is)
    (case l_p_common_part => k_is)
    (case c_p_common_part_ => k_is)
    (case k_p_common_part_ => k_is)
    (case a_p_common_multiple => k_is)
    (case l_p_common_multiple => k_is)
    (case c_p_common_multiple_ => k_is)
    (case k_p_common_multiple_ => k_is)
    (case a_p_common_bottom => k_is)
    (case l_p_common_bottom => k_is)
    (case c_p_common_bottom_ => k_is)
    (case k_p_common_bottom_ => k_is)
    (case a_p_tops_over => k_is)
    (case l_p_tops_over => k_is)
    (case c_p_tops_over_ => k_is)
    (case k_p_tops_over_ => k_is)
    (case a_p_minus => k_is)
    (case l_p_minus => k_is)
    (case c_p_minus_ => k_is)
    (case k_p_minus_ => k_is)
    (case a_p_are_shares => k_is)
    (case l_p_are_shares => k_is)
    (case c_p_are_shares_ => k_is)
    (case k_p_are_shares_ => k_is)
    (case a_p_are_prices => k_is)
    (case l_p_are_prices => k_is)
    (case c_p_are_prices_ => k_is)
    (case k_p_are_prices_ => k_is)
    (case a_p_joined => k_is)
    (case l_p_joined => k_is)
    (case c_p_joined_ => k_is)
    (case k_p_joined_ => k_is)
    (case a_p_weighed => k_is)
    (case l_p_weighed => k_is)
    (case c_p_weighed_ => k_is)
    (case k_p_weighed_ => k_is)
    (case a_p_cost_of => k_is)
    (case l_p_cost_of => k_is)
    (case c_p_cost_of_ => k_is)
    (case k_p_cost_of_ => k_is)
    (case a_p_brought => k_is)
    (case l_p_brought => k_is)
    (case c_p_brought_ => k_is)
    (case k_p_brought_ => k_is)
    (case a_l_well => k_is)
    (case l_l_well => k_is)
    (case c_l_well_ => k_is)
    (case k_l_well_ => k_is)
    (case a_l_draw => k_is)
    (case l_l_draw => k_is)
    (case c_l_draw_ => k_is)
    (case k_l_draw_ => k_is)
    (case a_l_one => k_is)
    (case l_l_one => k_is)
    (case c_l_one_ => k_is)
    (case k_l_one_ => k_is)
    (case a_l_low => k_is)
    (case l_l_low => k_is)
    (case c_l_low_ => k_is)
    (case k_l_low_ => k_is)
    (case a_l_pair => k_is)
    (case l_l_pair => k_is)
    (case c_l_pair_ => k_is)
    (case k_l_pair_ => k_is)
    (case a_l_heap => k_is)
    (case l_l_heap => k_is)
    (case c_l_heap_ => k_is)
    (case k_l_heap_ => k_is)
    (case a_l_costs => k_is)
    (case l_l_costs => k_is)
    (case c_l_costs_ => k_is)
    (case k_l_costs_ => k_is)
    (case a_l_shares => k_is)
    (case l_l_shares => k_is)
    (case c_l_shares_ => k_is)
    (case k_l_shares_ => k_is)
    (case a_l_rows => k_is)
    (case l_l_rows => k_is)
    (case c_l_rows_ => k_is)
    (case k_l_rows_ => k_is)
    (case a_l_added => k_is)
    (case l_l_added => k_is)
    (case c_l_added_ => k_is)
    (case k_l_added_ => k_is)
    (case a_l_total => k_is)
    (case l_l_total => k_is)
    (case c_l_total_ => k_is)
    (case k_l_total_ => k_is)
    (case a_l_by => k_is)
    (case l_l_by => k_is)
    (case c_l_by_ => k_is)
    (case k_l_by_ => k_is)
    (case a_l_below => k_is)
    (case l_l_below => k_is)
    (case c_l_below_ => k_is)
    (case k_l_below_ => k_is)
    (case a_l_filled => k_is)
    (case l_l_filled => k_is)
    (case c_l_filled_ => k_is)
    (case k_l_filled_ => k_is)
    (case a_l_cost => k_is)
    (case l_l_cost => k_is)
    (case c_l_cost_ => k_is)
    (case k_l_cost_ => k_is)
    (case a_l_less => k_is)
    (case l_l_less => k_is)
    (case c_l_less_ => k_is)
    (case k_l_less_ => k_is)
    (case a_l_prices => k_is)
    (case l_l_prices => k_is)
    (case c_l_prices_ => k_is)
    (case k_l_prices_ => k_is)
    (case a_l_due => k_is)
    (case l_l_due => k_is)
    (case c_l_due_ => k_is)
    (case k_l_due_ => k_is)
    (case a_l_otherwise => k_is)
    (case l_l_otherwise => k_is)
    (case c_l_otherwise_ => k_is)
    (case k_l_otherwise_ => k_is)
    (case a_l_made => k_is)
    (case l_l_made => k_is)
    (case c_l_made_ => k_is)
    (case k_l_made_ => k_is)
    (case a_l_summed => k_is)
    (case l_l_summed => k_is)
    (case c_l_summed_ => k_is)
    (case k_l_summed_ => k_is)
    (case a_law => k_is)
    (case l_law => k_is)
    (case c_law_ => k_is)
    (case k_law_ => k_is)
    (case pg_Share => k_is)
    (case hd_Share => k_is)
    (case po_Share => k_is)
    (case sa_Share => k_is)
    (case mk_Share => k_is)
    (case kc_Share => k_is)
    (case if_Share => k_is)
    (case ha_Share => k_is)
    (case hn_Share => k_is)
    (case ht_Share => k_is)
    (case hm_Share => k_is)
    (case n_Share_top => k_is)
    (case n_Share_bottom => k_is)
    (case i_m_Share_eq => k_is)
    (case i_m_Share_str => k_is)
    (case nn_Share => k_is)
    (case nf_Share_int => k_is)
    (case nf_Share_str => k_is)
    (case nf_Share_NoneType => k_is)
    (case nf_Share_list => k_is)
    (case nf_Share_tuple => k_is)
    (case nf_Share_dict => k_is)
    (case nf_Share_bool => k_is)
    (case ko_Share => kit_is)
    (case ko_Share_int => kit_is)
    (case ko_Share_str => kit_is)
    (case ko_Share_NoneType => kit_is)
    (case ko_Share_list => kit_is)
    (case ko_Share_tuple => kit_is)
    (case ko_Share_dict => kit_is)
    (case ko_Share_bool => kit_is)
    (case ac_PIECE_LENGTH => k_is)
    (case zz_divmod => k_is)
    (case zz_str => k_is)
    (case zz_isinstance => k_is)
    (case zz_int => k_is)
    (case zz_bool => k_is)
    (case zz_abs => k_is)
    (case zz_list => k_is)
    (case zz_all => k_is)
    (case zz_len => k_is)
    (case zz_tuple => k_is)
    (case zz_enumerate => k_is)
    (case zz_sum => k_is)
    (case zz_zip => k_is)
    (case zz_range => k_is)
    (case zz_max => k_is)
    (case fact_kit_Share_list => kit_is)
    (case fact_kit_Share_tuple => kit_is)
