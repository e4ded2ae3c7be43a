import PyProof.Rows.All
import Wide.All
import OpenK.AllK
import Wide.FinOn
import HandS.ForMost
import HandS.Wide
import HandS.IsInst
import HandS.Defaults
import HandS.OwnEq
import HandS.Zip
import HandS.Style
import HandS.SetFor
import KE.RegKIsAll
import HandS.FStr
import HandS.NoneIn
import HandS.Exc
import HandS.TryOnly
import HandS.ExcOwn
import HandS.WordsExc
import HandS.ExcIs
import HandS.Walk
import PySem.Challenge.RW_farbetween_k11_plans_judged
set_option Elab.async false
set_option linter.all false
set_option maxRecDepth 100000
/-! Part A: rules and mathematics that hang on no row. -/
namespace Fb
open PySem PySem.Spec PyProof.Rows L2
/-! ### rules -/
section
variable {X : Cx}
/-- // by any divisor but 0 below 2 ^ 9000 -/
def CDivZ (_ j : Int) : Prop := j ≠ 0 ∧ j.natAbs.log2 < 9000
theorem op_fdivZ : OpR X (binaryOp .FloorDiv) (rI CDivZ fun i j => .int (i.fdiv j)) := opI fun _ _ _ _ _ _ _ hc q => floordiv_int hc.1 q (.inl (PyProof.noPylong_of_log2 hc.2))
def ipC (C : Int → Int → Prop) (f : Int → Int → Int) : TIp := fun x y H Q => ∃ i j, x = .int i ∧ y = .int j ∧ C i j ∧ Q (.int (f i j)) H
theorem ip_mulW : PIp X .Mult (ipC CMulW fun i j => i * j) := by
  intro pins s σ H x y v u Q I r1 r2 h
  obtain ⟨i, j, e1, e2, hc, q⟩ := h
  subst e1; subst e2
  obtain ⟨t, rfl⟩ := r1
  obtain ⟨t', rfl⟩ := r2
  exact imul_int ⟨.int _, H, I.tok _, ⟨_, rfl⟩, q⟩ hc.ok
end
/-! ### the same rules with the written part named (within a comprehension) -/
section
variable {X : Cx} {K : PySem.W.Frag} {e : Expr} {ta : TE} {f : Str} {pos : Pos}
theorem pe_fldK (hK : X.K = K) (he : PE X e ta) (hb : attributeBase e f X.env (eval e X.env) = eval e X.env) : PE X (.Attribute e f pos) (tFld K ta f) := hK ▸ pe_fld he hb
theorem ix_listK (hK : X.K = K) : IxR X (rIxL K) := hK ▸ ix_list
theorem ix_tupK (hK : X.K = K) : IxR X (rIxT K) := hK ▸ ix_tup
theorem sl_listK (hK : X.K = K) : SlR X (rSlL K) := hK ▸ sl_list
theorem call_len_seqK (hK : X.K = K) : CallR X (.builtin "len") (fun xs H Q => ∃ p ys, xs = [.ref p] ∧ (SqL K H p ys ∨ SqT K H p ys) ∧ Q (.int ys.length) H) := hK ▸ call_len_seq
theorem call_isiK (hK : X.K = K) : CallR X (.builtin "isinstance") (rIsi K) := hK ▸ call_isi
end
/-- what isinstance asks of a class -/
structure TyIns (K : PySem.W.Frag) (C : Addr) : Prop where
  ha : PySem.W.findIn K (.ref C) "__class__" = some (some (.builtin "object.__class__"))
  hn : PySem.W.specialIn K (.builtin "object.__class__") "__get__" = some (some (.builtin "getset_descriptor.__get__"))
  htk : PySem.W.takesIn K (.builtin "object.__class__") = some true
  hm : PySem.W.mroIn K C (.type "object") = some true
/-! ### heaps -/
theorem same_upd {H : Hp} {p : Addr} {o : HO} (h : H p = none) : Same H (upd H p o) := fun b x e => by
  rw [upd_ne (ne_of_none e h)]
  exact e
theorem same_upd2 {G H : Hp} {p : Addr} {o : HO} (s : Same G H) (h : H p = none) : Same G (upd H p o) := s.trans (same_upd h)
/-- over a new object that has been stored into once more -/
theorem same_over {G H : Hp} {p : Addr} {o : HO} (s : Same G H) (h : G p = none) : Same G (upd H p o) := fun b x e => by
  rw [upd_ne (ne_of_none e h)]
  exact s _ _ e
theorem sqT_new {K : PySem.W.Frag} {H : Hp} {p : Addr} {xs : List V} : SqT K (upd H p (.tup xs)) p xs := .inl (.inl upd_same)
theorem sqL_new {K : PySem.W.Frag} {H : Hp} {p : Addr} {xs : List V} : SqL K (upd H p (.lst xs)) p xs := .inl (.inl upd_same)
/-- the heap without what stands at a -/
def hid (a : Addr) (H : Hp) : Hp := fun b => if b = a then none else H b
theorem hid_same {a : Addr} {H : Hp} : Same (hid a H) H := fun b o e => by
  unfold hid at e
  by_cases h : b = a
  · rw [if_pos h] at e; cases e
  · rw [if_neg h] at e; exact e
theorem hid_ne {a b : Addr} {H : Hp} (h : b ≠ a) : hid a H b = H b := if_neg h
theorem hid_self {a : Addr} {H : Hp} : hid a H a = none := if_pos rfl
theorem hid_mono {a : Addr} {H H' : Hp} (s : Same H H') : Same (hid a H) (hid a H') := fun b o e => by
  by_cases h : b = a
  · rw [h, hid_self] at e; cases e
  · rw [hid_ne h] at e ⊢; exact s _ _ e
theorem hid_upd {a : Addr} {H : Hp} {o : HO} : hid a (upd H a o) = hid a H := by
  funext b
  by_cases h : b = a
  · rw [h, hid_self, hid_self]
  · rw [hid_ne h, hid_ne h, upd_ne h]
theorem hid_updN {a p : Addr} {H : Hp} {o : HO} (h : p ≠ a) : hid a (upd H p o) = upd (hid a H) p o := by
  funext b
  by_cases hb : b = a
  · rw [hb, hid_self, upd_ne (Ne.symm h), hid_self]
  · rw [hid_ne hb]
    by_cases hp : b = p
    · rw [hp, upd_same, upd_same]
    · rw [upd_ne hp, upd_ne hp, hid_ne hb]
/-! ### shares in the heap -/
theorem tb : ¬ (("top" : Str) = "bottom") := by decide +kernel
def flds (q : Rat) : List (Str × V) := putF "bottom" (.int (q.den : Int)) (putF "top" (.int q.num) [])
theorem flds_top (q : Rat) : (flds q).lookup ("top" : Str) = some (.int q.num) := by
  unfold flds
  rw [lookup_putF, if_neg tb, lookup_putF, if_pos rfl]
theorem flds_bottom (q : Rat) : (flds q).lookup ("bottom" : Str) = some (.int (q.den : Int)) := by
  unfold flds
  rw [lookup_putF, if_pos rfl]
def IsShare (C : Addr) (H : Hp) (v : V) (q : Rat) : Prop := ∃ p dx, v = .ref p ∧ H p = some (.ins C dx (flds q))
theorem IsShare.mono {C : Addr} {H H' : Hp} {v : V} {q : Rat} (h : IsShare C H v q) (s : Same H H') : IsShare C H' v q := by
  obtain ⟨p, dx, e, h⟩ := h
  exact ⟨p, dx, e, s _ _ h⟩
/-! ### the greatest common part, and lowest terms -/
theorem gcd_step (a b : Int) : Int.gcd b (a.fmod b) = Int.gcd a b := by
  have e : a.fmod b = a - b * a.fdiv b := Int.fmod_def a b
  rw [e, Int.gcd_sub_mul_left_right, Int.gcd_comm]
theorem fmod_lt (a b : Int) (h : b ≠ 0) : (a.fmod b).natAbs < b.natAbs := by
  rw [Int.fmod_eq_emod]
  have h1 := Int.emod_nonneg a h
  have h2 := Int.emod_lt a h
  split
  · omega
  · rename_i z
    have h3 : ¬ b ∣ a := fun d => z (.inr d)
    have h4 : a % b ≠ 0 := fun e => h3 (Int.dvd_of_emod_eq_zero e)
    have h5 : ¬ 0 ≤ b := fun d => z (.inl d)
    omega
/-- the divisor that brings t over b to lowest terms, its sign the bottom's -/
def cut (t b : Int) : Int := if b < 0 then -(Int.gcd t b : Int) else (Int.gcd t b : Int)
theorem gcd_pos {t b : Int} (h : b ≠ 0) : 0 < Int.gcd t b := Int.gcd_pos_of_ne_zero_right _ h
theorem cut_ne {t b : Int} (h : b ≠ 0) : cut t b ≠ 0 := by
  have := gcd_pos (t := t) h
  unfold cut
  split <;> omega
theorem cut_abs {t b : Int} : (cut t b).natAbs = Int.gcd t b := by
  unfold cut
  split <;> omega
theorem cut_le {t b : Int} (h : b ≠ 0) : (cut t b).natAbs ≤ b.natAbs := by
  rw [cut_abs]
  exact Nat.le_of_dvd (by omega) (Int.natAbs_dvd_natAbs.mpr (Int.gcd_dvd_right t b))
theorem cut_top {t b : Int} (h : b ≠ 0) : t.fdiv (cut t b) = (Rat.divInt t b).num := by
  have d : (Int.gcd t b : Int) ∣ t := Int.gcd_dvd_left t b
  rw [Rat.num_divInt, Int.gcd_comm b t]
  unfold cut
  by_cases hb : b < 0
  · rw [if_pos hb, Int.sign_eq_neg_one_of_neg hb, Int.fdiv_eq_ediv_of_dvd (Int.neg_dvd.mpr d), Int.ediv_neg, Int.neg_one_mul, Int.neg_ediv_of_dvd d]
  · rw [if_neg hb, Int.sign_eq_one_of_pos (by omega), Int.one_mul, Int.fdiv_eq_ediv_of_dvd d]
theorem cut_bottom {t b : Int} (h : b ≠ 0) : b.fdiv (cut t b) = ((Rat.divInt t b).den : Int) := by
  have d : (Int.gcd t b : Int) ∣ b := Int.gcd_dvd_right t b
  rw [Rat.den_divInt, if_neg h, Int.gcd_comm b t]
  unfold cut
  rw [Int.natCast_ediv]
  by_cases hb : b < 0
  · rw [if_pos hb, Int.fdiv_eq_ediv_of_dvd (Int.neg_dvd.mpr d), Int.ediv_neg, ← Int.neg_ediv_of_dvd d]
    congr 1
    omega
  · rw [if_neg hb, Int.fdiv_eq_ediv_of_dvd d]
    congr 1
    omega
end Fb

/-! Part A2: shares as rational numbers, their bounds; sums over a common bottom; lists that comprehensions make. -/
namespace Fb
open PySem PySem.Spec PyProof.Rows L2
/-! ### bounds -/
structure Bd (n : Nat) (q : Rat) : Prop where
  num : q.num.natAbs < 2 ^ n
  den : q.den < 2 ^ n
theorem Bd.mono {n m : Nat} {q : Rat} (h : Bd n q) (l : n ≤ m) : Bd m q :=
  ⟨Nat.lt_of_lt_of_le h.num (Nat.pow_le_pow_right (by decide) l), Nat.lt_of_lt_of_le h.den (Nat.pow_le_pow_right (by decide) l)⟩
theorem Bd.pos {n : Nat} {q : Rat} (h : Bd n q) : 0 < n := by
  have := h.den
  have := q.den_pos
  cases n with
  | zero => simp at *; omega
  | succ n => omega
theorem divInt_num_le {t b : Int} (h : b ≠ 0) : (Rat.divInt t b).num.natAbs ≤ t.natAbs := by
  have d : (cut t b) ∣ t := by
    have d := Int.gcd_dvd_left t b
    unfold cut
    split
    · exact Int.neg_dvd.mpr d
    · exact d
  have e : (Rat.divInt t b).num * cut t b = t := by
    rw [← cut_top h, Int.fdiv_eq_ediv_of_dvd d, Int.ediv_mul_cancel d]
  have e2 := congrArg Int.natAbs e
  rw [Int.natAbs_mul] at e2
  have := cut_ne (t := t) h
  rw [← e2]
  exact Nat.le_mul_of_pos_right _ (by omega)
theorem divInt_den_le {t b : Int} (h : b ≠ 0) : (Rat.divInt t b).den ≤ b.natAbs := by
  rw [Rat.den_divInt, if_neg h]
  exact Nat.div_le_self _ _
theorem Bd.divInt {t b : Int} {n : Nat} (h : b ≠ 0) (ht : t.natAbs < 2 ^ n) (hb : b.natAbs < 2 ^ n) : Bd n (Rat.divInt t b) :=
  ⟨Nat.lt_of_le_of_lt (divInt_num_le h) ht, Nat.lt_of_le_of_lt (divInt_den_le h) hb⟩
theorem den_ne (q : Rat) : (q.den : Int) ≠ 0 := by
  have := q.den_pos
  omega
theorem den_abs {n : Nat} {q : Rat} (h : Bd n q) : (q.den : Int).natAbs < 2 ^ n := by
  have := h.den
  omega
theorem dens_ne (x y : Rat) : (x.den : Int) * (y.den : Int) ≠ 0 := Int.mul_ne_zero (den_ne x) (den_ne y)
theorem rat_add (x y : Rat) : Rat.divInt (x.num * (y.den : Int) + y.num * (x.den : Int)) ((x.den : Int) * (y.den : Int)) = x + y := by
  rw [Rat.add_def', ← Int.natCast_mul, Rat.divInt_ofNat]
theorem rat_sub (x y : Rat) : Rat.divInt (x.num * (y.den : Int) - y.num * (x.den : Int)) ((x.den : Int) * (y.den : Int)) = x - y := by
  rw [Rat.sub_def', ← Int.natCast_mul, Rat.divInt_ofNat]
theorem rat_mul (x y : Rat) : Rat.divInt (x.num * y.num) ((x.den : Int) * (y.den : Int)) = x * y := by
  rw [Rat.mul_def', ← Int.natCast_mul, Rat.divInt_ofNat]
theorem rat_div (x y : Rat) : Rat.divInt (x.num * (y.den : Int)) ((x.den : Int) * y.num) = x / y := by
  rw [Rat.div_def, Rat.inv_def, ← Rat.divInt_mul_divInt, Rat.num_divInt_den]
theorem sum_lt {a b : Int} {n : Nat} (ha : a.natAbs < 2 ^ n) (hb : b.natAbs < 2 ^ n) : (a + b).natAbs < 2 ^ (n + 1) := by
  rw [Nat.pow_succ]
  omega
theorem sub_lt {a b : Int} {n : Nat} (ha : a.natAbs < 2 ^ n) (hb : b.natAbs < 2 ^ n) : (a - b).natAbs < 2 ^ (n + 1) := by
  rw [Nat.pow_succ]
  omega
theorem up {a : Int} {n m : Nat} (ha : a.natAbs < 2 ^ n) (h : n ≤ m) : a.natAbs < 2 ^ m := Nat.lt_of_lt_of_le ha (Nat.pow_le_pow_right (by decide) h)
theorem Bd.add {n m : Nat} {x y : Rat} (hx : Bd n x) (hy : Bd m y) : Bd (n + m + 1) (x + y) := by
  rw [← rat_add]
  refine .divInt (dens_ne x y) (sum_lt (wide_lt hx.num (den_abs hy)) ?_) (up (wide_lt (den_abs hx) (den_abs hy)) (by omega))
  have := wide_lt hy.num (den_abs hx)
  rw [Nat.add_comm] at this
  exact this
theorem Bd.sub {n m : Nat} {x y : Rat} (hx : Bd n x) (hy : Bd m y) : Bd (n + m + 1) (x - y) := by
  rw [← rat_sub]
  refine .divInt (dens_ne x y) (sub_lt (wide_lt hx.num (den_abs hy)) ?_) (up (wide_lt (den_abs hx) (den_abs hy)) (by omega))
  have := wide_lt hy.num (den_abs hx)
  rw [Nat.add_comm] at this
  exact this
theorem Bd.mul {n m : Nat} {x y : Rat} (hx : Bd n x) (hy : Bd m y) : Bd (n + m) (x * y) := by
  rw [← rat_mul]
  exact .divInt (dens_ne x y) (wide_lt hx.num hy.num) (wide_lt (den_abs hx) (den_abs hy))
theorem Bd.div {n m : Nat} {x y : Rat} (hx : Bd n x) (hy : Bd m y) (h0 : y ≠ 0) : Bd (n + m) (x / y) := by
  rw [← rat_div]
  exact .divInt (Int.mul_ne_zero (den_ne x) (fun z => h0 (Rat.num_eq_zero.mp z))) (wide_lt hx.num (den_abs hy)) (wide_lt (den_abs hx) hy.num)
theorem log_of {a : Int} {n : Nat} (h0 : 0 < n) (h : a.natAbs < 2 ^ n) (h9 : n ≤ 9000) : a.natAbs.log2 < 9000 := Nat.lt_of_lt_of_le (PySem.Flt.log2_lt_of h0 h) h9
/-! ### sums over a common bottom -/
def lcmOn : Nat → List Rat → Nat
  | L, [] => L
  | L, q :: r => lcmOn (L * (q.den / Nat.gcd L q.den)) r
theorem lcmOn_pos : ∀ (qs : List Rat) (L : Nat), 0 < L → 0 < lcmOn L qs
  | [], _, h => h
  | q :: r, L, h => by
    refine lcmOn_pos r _ (Nat.mul_pos h (Nat.div_pos (Nat.le_of_dvd q.den_pos (Nat.gcd_dvd_right _ _)) (Nat.gcd_pos_of_pos_left _ h)))
theorem lcmOn_dvd : ∀ (qs : List Rat) (L : Nat), L ∣ lcmOn L qs
  | [], L => Nat.dvd_refl L
  | _ :: r, L => Nat.dvd_trans (Nat.dvd_mul_right L _) (lcmOn_dvd r _)
theorem den_dvd_step (L d : Nat) : d ∣ L * (d / Nat.gcd L d) := by
  rw [← Nat.mul_div_assoc _ (Nat.gcd_dvd_right L d)]
  exact Nat.dvd_lcm_right L d
theorem den_dvd_lcm : ∀ (qs : List Rat) (L : Nat) (q : Rat), q ∈ qs → q.den ∣ lcmOn L qs
  | x :: r, L, q, h => by
    rcases List.mem_cons.mp h with e | h
    · subst e
      exact Nat.dvd_trans (den_dvd_step L q.den) (lcmOn_dvd r _)
    · exact den_dvd_lcm r _ q h
theorem lcmOn_lt : ∀ (qs : List Rat) (L n a : Nat), (∀ q ∈ qs, q.den < 2 ^ n) → L < 2 ^ a → lcmOn L qs < 2 ^ (a + n * qs.length)
  | [], L, n, a, _, h => by simpa [lcmOn] using h
  | q :: r, L, n, a, hq, h => by
    have h1 : L * (q.den / Nat.gcd L q.den) < 2 ^ (a + n) := by
      rw [Nat.pow_add]
      exact Nat.lt_of_le_of_lt (Nat.mul_le_mul_left _ (Nat.div_le_self _ _)) (Nat.mul_lt_mul'' h (hq q List.mem_cons_self))
    have := lcmOn_lt r _ n (a + n) (fun x hx => hq x (List.mem_cons_of_mem _ hx)) h1
    rw [List.length_cons, Nat.mul_succ]
    rw [show a + (n * r.length + n) = a + n + n * r.length by omega]
    exact this
def rsum : List Rat → Rat
  | [] => 0
  | q :: r => q + rsum r
theorem rsum_append : ∀ (a b : List Rat), rsum (a ++ b) = rsum a + rsum b
  | [], b => (Rat.zero_add _).symm
  | q :: r, b => by
    show q + rsum (r ++ b) = q + rsum r + rsum b
    rw [rsum_append r b, Rat.add_assoc]
theorem divInt_add_same (a b d : Int) : Rat.divInt (a + b) d = Rat.divInt a d + Rat.divInt b d := by
  by_cases h : d = 0
  · subst h
    simp [Rat.zero_add]
  · rw [Rat.divInt_add_divInt _ _ h h, ← Int.add_mul, Rat.divInt_mul_right h]
def topsOf (L : Nat) (qs : List Rat) : List Int := qs.map fun q => q.num * ((L / q.den : Nat) : Int)
theorem tops_one {L : Nat} {q : Rat} (h0 : 0 < L) (hd : q.den ∣ L) : Rat.divInt (q.num * ((L / q.den : Nat) : Int)) (L : Int) = q := by
  obtain ⟨k, rfl⟩ := hd
  have hk : k ≠ 0 := fun z => by
    subst z
    simp at h0
  rw [Nat.mul_div_cancel_left _ q.den_pos, Int.natCast_mul, Rat.divInt_mul_right (by omega), Rat.num_divInt_den]
theorem tops_sum {L : Nat} (h0 : 0 < L) : ∀ (qs : List Rat), (∀ q ∈ qs, q.den ∣ L) → Rat.divInt (topsOf L qs).sum (L : Int) = rsum qs
  | [], _ => by simp [topsOf, rsum]
  | q :: r, h => by
    show Rat.divInt (q.num * ((L / q.den : Nat) : Int) + (topsOf L r).sum) (L : Int) = q + rsum r
    rw [divInt_add_same, tops_one h0 (h q List.mem_cons_self), tops_sum h0 r fun x hx => h x (List.mem_cons_of_mem _ hx)]
/-- n bounds each share, N their number -/
structure Few (n N : Nat) (qs : List Rat) : Prop where
  bd : ∀ q ∈ qs, Bd n q
  len : qs.length ≤ N
  small : n * N ≤ 8000
  most : N ≤ 999
  pos : 0 < n
/-! ### values that stand for a list of things -/
def AllAre {α : Type} (R : V → α → Prop) (vs : List V) (xs : List α) : Prop := vs.length = xs.length ∧ ∀ (i : Nat) (v : V) (x : α), vs[i]? = some v → xs[i]? = some x → R v x
theorem AllAre.nil {α : Type} {R : V → α → Prop} : AllAre R [] [] := ⟨rfl, fun i v x h => by simp at h⟩
theorem AllAre.at {α : Type} {R : V → α → Prop} {vs : List V} {xs : List α} {i : Nat} {v : V} (h : AllAre R vs xs) (e : vs[i]? = some v) : ∃ x, xs[i]? = some x ∧ R v x := by
  have hi : i < xs.length := by
    have := (List.getElem?_eq_some_iff.mp e).1
    rw [← h.1]
    exact this
  exact ⟨xs[i], List.getElem?_eq_getElem hi, h.2 i v _ e (List.getElem?_eq_getElem hi)⟩
theorem AllAre.imp {α : Type} {R R' : V → α → Prop} {vs : List V} {xs : List α} (h : AllAre R vs xs) (f : ∀ v x, R v x → R' v x) : AllAre R' vs xs := ⟨h.1, fun i v x a b => f _ _ (h.2 i v x a b)⟩
theorem AllAre.cons {α : Type} {R : V → α → Prop} {v : V} {x : α} {vs : List V} {xs : List α} (r : R v x) (h : AllAre R vs xs) : AllAre R (v :: vs) (x :: xs) := by
  refine ⟨by simp [h.1], fun i a b h1 h2 => ?_⟩
  cases i with
  | zero =>
    simp at h1 h2
    subst h1; subst h2
    exact r
  | succ i =>
    simp at h1 h2
    exact h.2 i a b h1 h2
theorem AllAre.append {α : Type} {R : V → α → Prop} : ∀ {vs us : List V} {xs ys : List α}, AllAre R vs xs → AllAre R us ys → AllAre R (vs ++ us) (xs ++ ys)
  | [], us, [], ys, _, h => h
  | v :: vs, us, x :: xs, ys, h, h' => by
    have t : AllAre R vs xs := ⟨by simpa using h.1, fun i a b h1 h2 => h.2 (i + 1) a b (by simpa using h1) (by simpa using h2)⟩
    exact .cons (h.2 0 v x rfl rfl) (t.append h')
  | [], _, _ :: _, _, h, _ => by simp [AllAre] at h
  | _ :: _, _, [], _, h, _ => by simp [AllAre] at h
theorem AllAre.snoc {α : Type} {R : V → α → Prop} {v : V} {x : α} {vs : List V} {xs : List α} (h : AllAre R vs xs) (r : R v x) : AllAre R (vs ++ [v]) (xs ++ [x]) := h.append (.cons r .nil)
theorem AllAre.take {α : Type} {R : V → α → Prop} {vs : List V} {xs : List α} (n : Nat) (h : AllAre R vs xs) : AllAre R (vs.take n) (xs.take n) := by
  refine ⟨by simp [h.1], fun i a b h1 h2 => ?_⟩
  rw [List.getElem?_take] at h1 h2
  split at h1
  · rw [if_pos (by assumption)] at h2
    exact h.2 i a b h1 h2
  · cases h1
theorem AllAre.drop {α : Type} {R : V → α → Prop} {vs : List V} {xs : List α} (n : Nat) (h : AllAre R vs xs) : AllAre R (vs.drop n) (xs.drop n) := by
  refine ⟨by simp [h.1], fun i a b h1 h2 => ?_⟩
  rw [List.getElem?_drop] at h1 h2
  exact h.2 _ a b h1 h2
theorem AllAre.reverse {α : Type} {R : V → α → Prop} {vs : List V} {xs : List α} (h : AllAre R vs xs) : AllAre R vs.reverse xs.reverse := by
  refine ⟨by simp [h.1], fun i a b h1 h2 => ?_⟩
  have l1 := (List.getElem?_eq_some_iff.mp h1).1
  have l2 := (List.getElem?_eq_some_iff.mp h2).1
  rw [List.length_reverse] at l1 l2
  rw [List.getElem?_reverse l1] at h1
  rw [List.getElem?_reverse l2, ← h.1] at h2
  exact h.2 _ a b h1 h2
/-- a list of shares -/
def IsShares (C : Addr) (H : Hp) (v : V) (qs : List Rat) : Prop := ∃ p vs, v = .ref p ∧ H p = some (.lst vs) ∧ AllAre (IsShare C H) vs qs
theorem IsShares.mono {C : Addr} {H H' : Hp} {v : V} {qs : List Rat} (h : IsShares C H v qs) (s : Same H H') : IsShares C H' v qs := by
  obtain ⟨p, vs, e, h, a⟩ := h
  exact ⟨p, vs, e, s _ _ h, a.imp fun _ _ r => r.mono s⟩
/-! ### comprehensions that only make -/
/-- [e for x in xs]: what is told of the i-th item is told of it to the end -/
theorem lc_all {K : PySem.W.Frag} {a : Addr} {xs : List V} {g : TG} {te : TE} {vs : List Nat} {σ : L2.St} {H1 : Hp} {D : Addr} {Qd : Hp → Prop} (R : Nat → V → Hp → Prop) (mono : ∀ i v H H', Same H H' → R i v H → R i v H')
    (hD : H1 D = none) (hS : SqL K H1 a xs) (hz : xs.length ≤ 1000)
    (hs : ∀ i x H (k : V → Hp → Prop), xs[i]? = some x → Same H1 (hid D H) → (∃ ys, H D = some (.lst ys)) → (∀ y H4, Same H H4 → R i y (hid D H4) → k y H4) → g x (wipe σ vs) H fun σ2 H2 => wipe σ2 vs = wipe σ vs ∧ te σ2 H2 k)
    (hd : ∀ H ys, Same H1 (hid D H) → H D = some (.lst ys) → ys.length = xs.length → (∀ i y, ys[i]? = some y → R i y (hid D H)) → Qd H) :
    ∃ W : Nat → Nat → Hp → Prop, (∃ m, W 0 m (upd H1 D (.lst []))) ∧ ∀ i m H, W i m H →
      ((Itl K a).stop i H ∧ Qd H) ∨ ((Itl K a).go i H ∧ ∃ Nx : Hp → Prop, (∀ H', Nx H' → ∃ m', m' < m ∧ W (i + 1) m' H') ∧ ∀ x H', (Itl K a).yld i H x H' → g x (wipe σ vs) H' fun σ2 H2 => wipe σ2 vs = wipe σ vs ∧ tYes σ2 H2 fun b H3 =>
        if b = true then te σ2 H3 fun y H4 => ∃ acc, H4 D = some (.lst acc) ∧ acc.length < sizeLine ∧ Nx (upd H4 D (.lst (acc ++ [y]))) else Nx H3) := by
  refine lc_list (xs := xs) (fun i H => ∃ ys, Same H1 (hid D H) ∧ H D = some (.lst ys) ∧ ys.length = i ∧ ∀ j y, ys[j]? = some y → R j y (hid D H)) ⟨[], ?_, upd_same, rfl, fun j y h => by simp at h⟩ (fun i H _ h => ?_) (fun i x H hx h => ?_) (fun H h => ?_)
  · intro b o e
    rw [hid_ne (ne_of_none e hD), upd_ne (ne_of_none e hD)]
    exact e
  · obtain ⟨ys, s, _⟩ := h
    exact (s.trans hid_same).seq hS
  · obtain ⟨ys, s, e, l, r⟩ := h
    have hi : i < xs.length := (List.getElem?_eq_some_iff.mp hx).1
    refine hs i x H (fun y H4 => ∃ acc, H4 D = some (.lst acc) ∧ acc.length < sizeLine ∧ ∃ ys, Same H1 (hid D (upd H4 D (.lst (acc ++ [y])))) ∧ (upd H4 D (.lst (acc ++ [y]))) D = some (.lst ys) ∧ ys.length = i + 1 ∧ ∀ j y', ys[j]? = some y' → R j y' (hid D (upd H4 D (.lst (acc ++ [y]))))) hx s ⟨_, e⟩ fun y H4 s4 ry => ?_
    refine ⟨ys, s4 _ _ e, small1000 (by omega), ys ++ [y], ?_, upd_same, by simp [l], fun j y' h => ?_⟩
    · rw [hid_upd]
      exact s.trans (hid_mono s4)
    · rw [hid_upd]
      by_cases hj : j < ys.length
      · rw [List.getElem?_append_left hj] at h
        exact mono _ _ _ _ (hid_mono s4) (r j y' h)
      · rw [List.getElem?_append_right (by omega)] at h
        have hj2 : j - ys.length = 0 := by
          have := (List.getElem?_eq_some_iff.mp h).1
          simp at this
          omega
        rw [hj2] at h
        simp at h
        subst h
        have : j = i := by omega
        rw [this]
        exact ry
  · obtain ⟨ys, s, e, l, r⟩ := h
    exact hd H ys s e l r
end Fb

/-! Part A3: the well of draws, pairs, equality of pairs. -/
namespace Fb
open PySem PySem.Spec PyProof.Rows L2
/-- the well at a, good for n draws more -/
def WellAt (H : Hp) (a : Addr) (n : Nat) : Prop := ∃ w0 w1 w2 : Int, H a = some (.lst [.int w0, .int w1, .int w2]) ∧ 0 ≤ w1 ∧ w1 < 2147483647 ∧ 0 ≤ w2 ∧ w2 + (n : Int) ≤ 1099511627776
theorem WellAt.mono {H : Hp} {a : Addr} {n m : Nat} (h : WellAt H a n) (l : m ≤ n) : WellAt H a m := by
  obtain ⟨w0, w1, w2, e, a1, a2, a3, a4⟩ := h
  exact ⟨w0, w1, w2, e, a1, a2, a3, by omega⟩
theorem WellAt.same {H H' : Hp} {a : Addr} {n : Nat} (h : WellAt H a n) (s : Same H H') : WellAt H' a n := by
  obtain ⟨w0, w1, w2, e, r⟩ := h
  exact ⟨w0, w1, w2, s _ _ e, r⟩
theorem WellAt.ne {H : Hp} {a p : Addr} {n : Nat} (h : WellAt H a n) (e : H p = none) : p ≠ a := by
  obtain ⟨w0, w1, w2, ea, _⟩ := h
  intro z
  rw [z, ea] at e
  cases e
/-- what the seven primes are -/
theorem primes7 {k : Int} (h0 : 0 ≤ k) (h7 : k < 7) : ∃ p : Int, atI [V.int 2147483647, V.int 2147483629, V.int 2147483587, V.int 2147483579, V.int 2147483563, V.int 2147483549, V.int 2147483543] k = some (.int p) ∧ 0 < p ∧ p < 2147483648 := by
  have : k = 0 ∨ k = 1 ∨ k = 2 ∨ k = 3 ∨ k = 4 ∨ k = 5 ∨ k = 6 := by omega
  rcases this with e | e | e | e | e | e | e <;> subst e <;> exact ⟨_, rfl, by decide, by decide⟩
theorem atI_get {α : Type} {xs : List α} {i : Int} (h0 : 0 ≤ i) (h : i < xs.length) : ∃ x, atI xs i = some x ∧ xs[i.toNat]? = some x := by
  have hl : i.toNat < xs.length := by omega
  have g := List.getElem?_eq_getElem hl
  have e : ((i.toNat : Nat) : Int) = i := by omega
  have q := atI_nat g
  rw [e] at q
  exact ⟨_, q, g⟩
/-- a share's two numbers, as a tuple -/
def IsTup2 (H : Hp) (v : V) (t b : Int) : Prop := ∃ p, v = .ref p ∧ H p = some (.tup [.int t, .int b])
theorem IsTup2.mono {H H' : Hp} {v : V} {t b : Int} (h : IsTup2 H v t b) (s : Same H H') : IsTup2 H' v t b := by
  obtain ⟨p, e, h⟩ := h
  exact ⟨p, e, s _ _ h⟩
theorem IsTup2.dp {K : PySem.W.Frag} {H : Hp} {v : V} {t b : Int} (h : IsTup2 H v t b) : Dp K H v (.tuple [.int t, .int b]) := by
  obtain ⟨p, rfl, h⟩ := h
  exact .tup (.inl (.inl h)) (.cons (.int _) (.cons (.int _) .nil))
theorem eqv_tup2 (a b c d : Int) : PyData.eqv (.tuple [.int a, .int b]) (.tuple [.int c, .int d]) = (a == c && b == d) := by
  simp [PyData.eqv, PyData.eqvAll]
theorem shaped2 (a b : Int) : SeqAt.shaped (.tuple [.int a, .int b]) = true := rfl
/-- objects of other kinds than the well's are not hidden with it -/
theorem hid_keep {H : Hp} {a p : Addr} {n : Nat} {o : HO} (w : WellAt H a n) (h : H p = some o) (ho : ∀ xs, o ≠ .lst xs) : hid a H p = some o := by
  obtain ⟨w0, w1, w2, e, _⟩ := w
  rw [hid_ne]
  · exact h
  · intro z
    rw [z, e] at h
    cases h
    exact ho _ rfl
theorem IsTup2.hid {H : Hp} {a : Addr} {n : Nat} {v : V} {t b : Int} (w : WellAt H a n) (h : IsTup2 H v t b) : IsTup2 (hid a H) v t b := by
  obtain ⟨p, e, h⟩ := h
  exact ⟨p, e, hid_keep w h (fun _ => nofun)⟩
theorem IsShare.hid {C : Addr} {H : Hp} {a : Addr} {n : Nat} {v : V} {q : Rat} (w : WellAt H a n) (h : IsShare C H v q) : IsShare C (hid a H) v q := by
  obtain ⟨p, dx, e, h⟩ := h
  exact ⟨p, dx, e, hid_keep w h (fun _ => nofun)⟩
theorem pow_small {i : Int} (h0 : 0 ≤ i) (h : i < 18446744073709551616) : CPow i 5 := ⟨by decide, by decide, by omega⟩
theorem log_pos {m : Int} (h0 : 0 < m) {n : Nat} (hn : 0 < n) (h9 : n ≤ 9000) (h : m < 2 ^ n) : CDivW 0 m := by
  refine ⟨h0, log_of hn ?_ h9⟩
  have : ((2 ^ n : Nat) : Int) = 2 ^ n := by simp
  omega
end Fb
namespace Fb
open PySem PySem.Spec PyProof.Rows L2
/-- a new object beside the well -/
theorem well_new {H : Hp} {a p : Addr} {n : Nat} {o : HO} (w : WellAt H a n) (np : H p = none) : WellAt (upd H p o) a n ∧ Same (hid a H) (hid a (upd H p o)) :=
  ⟨w.same (same_upd np), hid_mono (same_upd np)⟩
theorem sqL_hid {K : PySem.W.Frag} {H : Hp} {a p : Addr} {n : Nat} {xs : List V} (w : WellAt H a n) (np : H p = none) : SqL K (hid a (upd H p (.lst xs))) p xs := by
  rw [hid_updN (w.ne np)]
  exact sqL_new
theorem tup_hid {H : Hp} {a p : Addr} {n : Nat} {t b : Int} (w : WellAt H a n) (np : H p = none) : IsTup2 (hid a (upd H p (.tup [.int t, .int b]))) (.ref p) t b := by
  refine ⟨p, rfl, ?_⟩
  rw [hid_updN (w.ne np), upd_same]
theorem mem5 {α : Type} {a b c d e x : α} {i : Nat} (h : [a, b, c, d, e][i]? = some x) : x = a ∨ x = b ∨ x = c ∨ x = d ∨ x = e := by
  have := List.mem_of_getElem? h
  simpa using this
theorem mem4 {α : Type} {a b c d x : α} {i : Nat} (h : [a, b, c, d][i]? = some x) : x = a ∨ x = b ∨ x = c ∨ x = d := by
  have := List.mem_of_getElem? h
  simpa using this
theorem mem3 {α : Type} {a b c x : α} {i : Nat} (h : [a, b, c][i]? = some x) : x = a ∨ x = b ∨ x = c := by
  have := List.mem_of_getElem? h
  simpa using this
theorem divInt_self (q : Rat) : Rat.divInt q.num (q.den : Int) = q := Rat.num_divInt_den q
end Fb

/-! Part A4: comprehensions beside the well; the law's loop over its numbers. -/
namespace Fb
open PySem PySem.Spec PyProof.Rows L2
theorem hid2_upd {a D : Addr} {H : Hp} {o : HO} (h : D ≠ a) : hid D (hid a (upd H D o)) = hid D (hid a H) := by
  rw [hid_updN h, hid_upd]
theorem hid2_ne {a D : Addr} {H : Hp} (h : D ≠ a) : hid a H D = H D := hid_ne h
theorem WellAt.upd {H : Hp} {a D : Addr} {n : Nat} {o : HO} (w : WellAt H a n) (h : D ≠ a) : WellAt (L2.upd H D o) a n := by
  obtain ⟨w0, w1, w2, e, r⟩ := w
  exact ⟨w0, w1, w2, by rw [upd_ne h.symm]; exact e, r⟩
/-- [e for x in range(..)], each turn at most c draws: what is told of each item stays -/
theorem lc_wellR {lo : Int} {n : Nat} {g : TG} {te : TE} {vs : List Nat} {σ : L2.St} {H1 : Hp} {D a : Addr} {Qd : Hp → Prop} (R : V → Hp → Prop) (mono : ∀ v H H', Same H H' → R v H → R v H') (c f : Nat)
    (hD : H1 D = none) (hw : WellAt H1 a (f + c * n)) (hn : n ≤ 1000)
    (hs : ∀ i H m (k : V → Hp → Prop), i < n → WellAt H a (m + c) → Same (hid a H1) (hid D (hid a H)) → (∃ ys, H D = some (.lst ys)) → (∀ y H4, Same (hid a H) (hid a H4) → WellAt H4 a m → R y (hid D (hid a H4)) → k y H4) →
      g (.int (lo + i)) (wipe σ vs) H fun σ2 H2 => wipe σ2 vs = wipe σ vs ∧ te σ2 H2 k)
    (hd : ∀ H ys, Same (hid a H1) (hid D (hid a H)) → WellAt H a f → H D = some (.lst ys) → ys.length = n → (∀ y ∈ ys, R y (hid D (hid a H))) → Qd H) :
    ∃ W : Nat → Nat → Hp → Prop, (∃ m, W 0 m (upd H1 D (.lst []))) ∧ ∀ i m H, W i m H →
      ((Itr lo n).stop i H ∧ Qd H) ∨ ((Itr lo n).go i H ∧ ∃ Nx : Hp → Prop, (∀ H', Nx H' → ∃ m', m' < m ∧ W (i + 1) m' H') ∧ ∀ x H', (Itr lo n).yld i H x H' → g x (wipe σ vs) H' fun σ2 H2 => wipe σ2 vs = wipe σ vs ∧ tYes σ2 H2 fun b H3 =>
        if b = true then te σ2 H3 fun y H4 => ∃ acc, H4 D = some (.lst acc) ∧ acc.length < sizeLine ∧ Nx (upd H4 D (.lst (acc ++ [y]))) else Nx H3) := by
  have nD : D ≠ a := hw.ne hD
  refine lc_range (fun i H => ∃ ys, Same (hid a H1) (hid D (hid a H)) ∧ WellAt H a (f + c * (n - i)) ∧ H D = some (.lst ys) ∧ ys.length = i ∧ ∀ y ∈ ys, R y (hid D (hid a H))) ⟨[], ?_, hw.upd nD, upd_same, rfl, fun y h => by simp at h⟩ (fun i H hi h => ?_) (fun H h => ?_)
  · rw [hid2_upd nD]
    intro b o e
    have hb : b ≠ D := fun z => by
      rw [z, hid_ne nD, hD] at e
      cases e
    rw [hid_ne hb]
    exact e
  · obtain ⟨ys, s, w, e, l, r⟩ := h
    have ec : f + c * (n - i) = (f + c * (n - (i + 1))) + c := by
      have : n - i = (n - (i + 1)) + 1 := by omega
      rw [this, Nat.mul_succ]
      omega
    rw [ec] at w
    refine hs i H _ (fun y H4 => ∃ acc, H4 D = some (.lst acc) ∧ acc.length < sizeLine ∧ ∃ ys, Same (hid a H1) (hid D (hid a (upd H4 D (.lst (acc ++ [y]))))) ∧ WellAt (upd H4 D (.lst (acc ++ [y]))) a (f + c * (n - (i + 1))) ∧ (upd H4 D (.lst (acc ++ [y]))) D = some (.lst ys) ∧ ys.length = i + 1 ∧ ∀ y' ∈ ys, R y' (hid D (hid a (upd H4 D (.lst (acc ++ [y])))))) hi w s ⟨_, e⟩ fun y H4 s4 w4 ry => ?_
    have e4 : H4 D = some (.lst ys) := by
      have := s4 D (.lst ys) (by rw [hid_ne nD]; exact e)
      rw [hid_ne nD] at this
      exact this
    refine ⟨ys, e4, small1000 (by omega), ys ++ [y], ?_, w4.upd nD, upd_same, by simp [l], fun y' h => ?_⟩
    · rw [hid2_upd nD]
      exact s.trans (hid_mono s4)
    · rw [hid2_upd nD]
      rcases List.mem_append.mp h with h | h
      · exact mono _ _ _ (hid_mono s4) (r y' h)
      · have : y' = y := by simpa using h
        rw [this]
        exact ry
  · obtain ⟨ys, s, w, e, l, r⟩ := h
    rw [Nat.sub_self, Nat.mul_zero] at w
    exact hd H ys s w e l r
/-- what is no list is not hidden with a list -/
theorem hid_no {H : Hp} {D p : Addr} {o : HO} (e : ∃ ys, H D = some (.lst ys)) (h : H p = some o) (ho : ∀ xs, o ≠ .lst xs) : hid D H p = some o := by
  obtain ⟨ys, e⟩ := e
  rw [hid_ne]
  · exact h
  · intro z
    rw [z, e] at h
    cases h
    exact ho _ rfl
theorem IsTup2.hidL {H : Hp} {D : Addr} {v : V} {t b : Int} (e : ∃ ys, H D = some (.lst ys)) (h : IsTup2 H v t b) : IsTup2 (Fb.hid D H) v t b := by
  obtain ⟨p, rfl, h⟩ := h
  exact ⟨p, rfl, hid_no e h (fun _ => nofun)⟩
theorem IsShare.hidL {C : Addr} {H : Hp} {D : Addr} {v : V} {q : Rat} (e : ∃ ys, H D = some (.lst ys)) (h : IsShare C H v q) : IsShare C (Fb.hid D H) v q := by
  obtain ⟨p, dx, rfl, h⟩ := h
  exact ⟨p, dx, rfl, hid_no e h (fun _ => nofun)⟩
theorem allAre_of {α : Type} {R : V → α → Prop} : ∀ {ys : List V}, (∀ y ∈ ys, ∃ x, R y x) → ∃ xs, AllAre R ys xs
  | [], _ => ⟨[], .nil⟩
  | y :: ys, h => by
    obtain ⟨x, hx⟩ := h y List.mem_cons_self
    obtain ⟨xs, hxs⟩ := allAre_of (ys := ys) fun z hz => h z (List.mem_cons_of_mem _ hz)
    exact ⟨x :: xs, .cons hx hxs⟩
theorem AllAre.of_ix {α : Type} {R : V → α → Prop} {ys : List V} {xs : List α} (l : ys.length = xs.length) (h : ∀ (i : Nat) y, ys[i]? = some y → ∃ x, xs[i]? = some x ∧ R y x) : AllAre R ys xs := ⟨l, fun i v x a b => by
  obtain ⟨x', e, r⟩ := h i v a
  rw [e] at b
  cases b
  exact r⟩
theorem AllAre.mem {α : Type} {R : V → α → Prop} {ys : List V} {xs : List α} (h : AllAre R ys xs) {x : α} (hx : x ∈ xs) : ∃ y, R y x := by
  obtain ⟨i, hi, e⟩ := List.mem_iff_getElem.mp hx
  have hl : i < ys.length := by rw [h.1]; exact hi
  exact ⟨ys[i], h.2 i _ x (List.getElem?_eq_getElem hl) (by rw [List.getElem?_eq_getElem hi, e])⟩
theorem rsum_take {qs : List Rat} {i : Nat} {z : Rat} (h : qs[i]? = some z) : rsum (qs.take (i + 1)) = rsum (qs.take i) + z := by
  rw [List.take_add_one, h, rsum_append]
  show rsum (qs.take i) + (z + 0) = _
  rw [Rat.add_zero]
theorem rsum_bd {n : Nat} : ∀ {qs : List Rat}, (∀ q ∈ qs, Bd n q) → Bd ((n + 1) * qs.length + 1) (rsum qs)
  | [], _ => by
    rw [List.length_nil, Nat.mul_zero]
    exact ⟨by decide, by decide⟩
  | q :: r, h => by
    have h1 := (h q List.mem_cons_self).add (rsum_bd (qs := r) fun x hx => h x (List.mem_cons_of_mem _ hx))
    refine h1.mono ?_
    rw [List.length_cons, Nat.mul_succ]
    omega
/-- the law's numbers are whole numbers -/
theorem cells_int {ns : List Int} {lo hi : Option Int} {more : List Int} {i : Nat} {x : V} (h : (cutV (ns.map V.int) lo hi ++ more.map V.int)[i]? = some x) : ∃ z, x = .int z := by
  have m := List.mem_of_getElem? h
  rcases List.mem_append.mp m with m | m
  · have m2 : x ∈ ns.map V.int := by
      unfold cutV at m
      exact List.mem_of_mem_drop (List.mem_of_mem_take m)
    obtain ⟨z, _, e⟩ := List.mem_map.mp m2
    exact ⟨z, e.symm⟩
  · obtain ⟨z, _, e⟩ := List.mem_map.mp m
    exact ⟨z, e.symm⟩
/-- over a heap that has the well's address free, the hidden heap's facts are facts -/
theorem same_hid {H0 H : Hp} {a : Addr} (s : Same H0 (hid a H)) : Same H0 H := s.trans hid_same
/-! ### orders of fractions -/
theorem divInt_neg_iff {n m : Int} (hm : m ≠ 0) : Rat.divInt n m < 0 ↔ n * m < 0 := by
  have key : ∀ {n m : Int}, 0 < m → (Rat.divInt n m < 0 ↔ n * m < 0) := fun {n m} hm => by
    rw [← Rat.not_le, Rat.divInt_nonneg_iff_of_pos_right hm]
    constructor
    · intro h
      exact Int.mul_neg_of_neg_of_pos (by omega) hm
    · intro h z
      have := Int.mul_nonneg z (Int.le_of_lt hm)
      omega
  rcases Int.lt_or_gt_of_ne hm with h | h
  · have e : Rat.divInt n m = Rat.divInt (-n) (-m) := (Rat.neg_divInt_neg n m).symm
    rw [e, key (by omega), Int.neg_mul_neg]
  · exact key h
theorem lt_cross {a b c d : Int} (hb : b ≠ 0) (hd : d ≠ 0) : Rat.divInt a b < Rat.divInt c d ↔ (a * d - c * b) * b * d < 0 := by
  have e : Rat.divInt a b - Rat.divInt c d = Rat.divInt (a * d - c * b) (b * d) := Rat.divInt_sub_divInt a c hb hd
  rw [Int.mul_assoc, ← divInt_neg_iff (Int.mul_ne_zero hb hd), ← e, ← Rat.not_le, Rat.le_iff_sub_nonneg, Rat.not_le]
end Fb

/-! Part A5: rules for ==, != and str of an instance of the program's own class (own __eq__ and __str__, no own __ne__). -/
namespace Fb
open PySem PySem.Spec PyProof.Rows L2
section
variable {prog : Program} {w : World} {A : Around} {E : Value → Shared → Prop} {s : Shared} {K : PySem.W.Frag} {x C f L : Addr} {h0 : Heap} {m : Str → Option Value} {ox : Obj} {od : Option Obj} {b tb : Value}
theorem slot_object_ne : Slot "object" "__ne__" "object.__ne__" :=
  .of (owner := "object") (n := "__ne__") (by rw [typeLookup_type, builtinLookup_eq_fast]; kernel_rfl) (by decide +kernel) (by decide +kernel) (by decide +kernel)
    (by first | exact .inl (by decide +kernel) | exact .inr (by decide +kernel)) (by rw [isSubtype_type]; kernel_rfl)
/-- a special method that is a built-in slot, looked up as comparisons do -/
theorem ifBound_B {M : Model} {name : Str} {id : String} {args : List Value} {Q : Option Value → Shared → Prop} (X : K.In s.heap) (I : PySem.W.InstAt s.heap x ox C od) (hs : PySem.W.findIn K (.ref C) name = some (some (.builtin id)))
    (hb : ∀ self, bindSpecial (.builtin id) self = pure (.builtin id, [self]))
    (h : wpAny M A (call (.builtin id) (.ref x :: args)) (fun v => Q (some v)) E s) : wpAny M A (callSpecialIfBound? (.ref x) name args) Q E s := by
  simp only [callSpecialIfBound?, bindSpecialIfBound?]
  refine wpAny_holding (wpAny_bind (wpAny_bind (wpAny_bind (I.type.here ((PySem.W.looks_findIn X hs).here ?_)))))
  refine wpAny_bind (wpAny_askSetting (wpAny_ite ?_))
  have fin : wpAny M A (call (.builtin id) ([.ref x] ++ args) >>= fun v => pure (some v)) Q E s := wpAny_bind (wpAny_mono h (fun v s' h' => wpAny_pure h') fun _ _ h' => h')
  split
  · exact wpAny_bind ((PySem.W.Looks.of_pure (hb _)).here (wpAny_pure (by exact fin)))
  · exact wpAny_tryCatch (wpAny_bind ((PySem.W.Looks.of_pure (hb _)).here (wpAny_pure (by exact fin))))
theorem objNe_K {Q : Value → Shared → Prop} (hu : A.in1.units < cLine) (X : K.In s.heap) (I : PySem.W.InstAt s.heap x ox C od) (hm : PySem.W.mroIn K C (.type "object") = some true) (hs : PySem.W.findIn K (.ref C) "__eq__" = some (some (.ref f))) (hf : PySem.W.isFn K (.ref f) = true)
    (h : wpAny (model prog w) A.in1 (call (.ref f) [.ref x, b]) (fun v s' => ∃ r, v = .bool r ∧ Q (.bool (!r)) s') E s) : wpAny (model prog w) A (call (.builtin "object.__ne__") [.ref x, b]) Q E s := by
  refine wpAny_call (codeAny_call_builtin slot_object_ne.plain PySem.F.cmpEntry_ne (PySem.W.check_slot (i := "object.__ne__") (owner := "object") (n := "__ne__") (by decide +kernel) (by decide +kernel) (I.type.andThen (PySem.W.looks_mroIn X hm)) (PySem.F.cmpArgs_ne _ _) ?_))
  unfold Builtin.«object.__ne__»
  refine wpAny_bind (m := slotArgs "__ne__" 1 _) (wpAny_pure ?_)
  refine wpAny_bind (m := cRoomFor _ _) (wpAny_cRoomFor hu ?_)
  refine wpAny_bind (m := callSpecialIfBound? (.ref x) (Str.ofString "__eq__") _) (PySem.W.ifBound_K X I hs hf (wpAny_mono h (fun r s' hq => ?_) fun _ _ y => y))
  obtain ⟨r, rfl, q⟩ := hq
  exact wpAny_bind (wpAny_truthy_bool (wpAny_pure q))
theorem ne_K {Q : Value → Shared → Prop} (hu : A.units < cLine) (hu1 : A.in1.units < cLine) (F : PyProof.Rows.Fr h0 L s.heap m) (X₀ : K.In h0) (I : PySem.W.InstAt s.heap x ox C od) (hb : PySem.W.Looks (model prog w) s.heap (typeOf b) tb) (hn : PySem.W.notFirst K C tb = true)
    (hne : PySem.W.findIn K (.ref C) "__ne__" = some (some (.builtin "object.__ne__"))) (hm : PySem.W.mroIn K C (.type "object") = some true) (hs : PySem.W.findIn K (.ref C) "__eq__" = some (some (.ref f))) (hf : PySem.W.isFn K (.ref f) = true)
    (h : wpAny (model prog w) A.in1 (call (.ref f) [.ref x, b]) (fun v s' => ∃ r, v = .bool r ∧ Q (.bool (!r)) s') E s) : wpAny (model prog w) A (richCompare .NotEq (.ref x) b) Q E s := by
  have X := X₀.keeps F.keep
  have one : wpAny (model prog w) A (tryCompare (.ref x) (cmpInfo .NotEq).2.1 b) (fun r s' => ∃ v, r = some v ∧ Q v s') E s := by
    unfold tryCompare
    refine wpAny_bind (ifBound_B X I hne slot_object_ne.bind (objNe_K hu1 X I hm hs hf (wpAny_mono h (fun v s' hv => ?_) fun _ _ e => e)))
    obtain ⟨r, rfl, q⟩ := hv
    exact ⟨r, rfl, wpAny_pure ⟨_, rfl, q⟩⟩
  unfold richCompare
  simp only [oneThing_ref]
  refine wpAny_holding (wpAny_bind (wpAny_cRoomFor hu ?_))
  refine wpAny_bind (I.type.here (wpAny_bind (hb.here ?_)))
  split
  · rename_i q
    have e : PySem.W.subIn K tb (.ref C) = some false := by
      rcases Bool.or_eq_true_iff.mp hn with e | e
      · rw [beq_iff_eq.mp e] at q; simp at q
      · exact beq_iff_eq.mp e
    refine wpAny_bind ((PySem.W.looks_subIn X e).here ?_)
    simp only [Bool.false_eq_true, if_false]
    refine wpAny_bind (wpAny_mono one (fun r s' z => ?_) fun _ _ e => e)
    obtain ⟨v, rfl, hq⟩ := z
    exact wpAny_pure hq
  · refine wpAny_bind (wpAny_pure ?_)
    simp only [Bool.false_eq_true, if_false]
    refine wpAny_bind (wpAny_mono one (fun r s' z => ?_) fun _ _ e => e)
    obtain ⟨v, rfl, hq⟩ := z
    exact wpAny_pure hq
open Builtin Builtin.Str in
theorem str_K {Q : Value → Shared → Prop} (hu : A.in1.in1.units < cLine) (X : K.In s.heap) (I : PySem.W.InstAt s.heap x ox C od) (hs : PySem.W.findIn K (.ref C) "__str__" = some (some (.ref f))) (hf : PySem.W.isFn K (.ref f) = true)
    (h : wpAny (model prog w) A.in1.in1 (call (.ref f) [.ref x]) (PySem.W.StrBack Q) E s) : wpAny (model prog w) A (call (.type "str") [.ref x]) Q E s := by
  refine callType_codes (T := "str") (Bi := Builtin.«object.__init__») (Q₁ := fun r s₁ => ∃ y u, r = .str y u ∧ Q r s₁) PySem.F.called_str (PySem.F.typeCall_str_1 _) PySem.F.entry_object_init ?_ ?_
  · refine codeAny_of_tree ?_
    show wpAny _ A.in1.in1 (do checkBuiltinCall "str.__new__" ⟨[.type "str", .ref x], []⟩; again (.builtin "str.__new__" ⟨[.type "str", .ref x], []⟩)) _ _ s
    refine wpAny_bind (wpAny_of_eq (PySem.F.newCall_str_1 _) (wpAny_pure ⟨plainId_quiet (by decide +kernel) _, codeAny_builtin PySem.F.entry_str_new ?_⟩))
    rw [Around.under_plainId (by decide +kernel) _]
    rw [str_new_tree]
    refine wpAny_bind (wpAny_pure ?_)
    refine wpAny_bind (wpAny_of_eq isSubtype_str_str ?_)
    have key : wpAny (model prog w) A.in1.in1 (PySem.Builtin.Str.strOf (.ref x)) (fun r s₁ => ∃ y u, r = .str y u ∧ Q r s₁) E s := by
      unfold PySem.Builtin.Str.strOf
      rw [show isExactStr (.ref x) = false from rfl]
      refine wpAny_bind (m := cRoomFor _ _) (wpAny_cRoomFor hu ?_)
      refine wpAny_bind (m := callSpecial? (.ref x) (Str.ofString "__str__")) (PySem.W.special_fn X I hs (beq_iff_eq.mp hf) (wpAny_mono h (fun r s' z => ?_) fun _ _ y => y))
      cases r <;> first | exact z.elim | exact wpAny_pure ⟨_, _, rfl, z⟩
    exact wpAny_bind (wpAny_mono key (fun r s₁ hr => wpAny_pure hr) fun _ _ y => y)
  · rintro obj s₁ ⟨y, u, rfl, hq⟩
    exact ⟨typeIs_str _ _ _, PySem.F.args_object_init_2 _ _, object_init_meets PySem.F.called_str.init.lookup PySem.F.called_str.made (by decide) prog w A.in1 _ s₁ ⟨typeIs_str _ _ _, rfl, hq⟩⟩
end
section
variable {X : Cx} {k : Nat} {C f : Addr} {fd : FuncData} {ps : List Str} {sp : Sp}
/-- what is asked of the two: the first an instance of C, the second of a type that is no subclass -/
def rOwn2 (K : PySem.W.Frag) (C : Addr) (sp : Sp) (g : Bool → Bool) : R2 := fun x y H Q => ∃ a dx fs t, x = .ref a ∧ H a = some (.ins C dx fs) ∧ TyX K H y t ∧ PySem.W.notFirst K C t = true ∧ sp [x, y] H (fun v H' => ∃ r, v = .bl r ∧ Q (.bl (g r)) H') E0
theorem run_in {A : Around} {pins : List (Addr × Obj)} {σ : L2.St} {H : Hp} {s : Shared} {Q : VK} {us : List Value} {vs : List V} (F : FnOk X.prog X.w X.K X.mg X.base CX0 k f fd ps sp) (hr : Room k A) (he : Env0 X.prog X.w X.K X.mg X.base A X.stack s H) (hb : Binds X.K fd ps [])
    (I : Inv X pins σ H s) (r : Vals vs us) (h : sp vs H Q E0) : wpAny (model X.prog X.w) A (call (.ref f) us) (EP X pins σ Q) X.xe s := by
  have hl : (us ++ []).length = ps.length := by rw [List.append_nil, ← r.length]; exact F.len _ _ _ _ h
  have hbb := hb s us I.kIn hl
  rw [List.append_nil] at hbb
  refine wpAny_call (codeAny_mono (F.run A X.stack s H ⟨us, []⟩ us vs Q E0 hr he hbb r h) fun r s' hq => ?_)
  cases r with
  | error e => exact hq.elim
  | ok fl =>
    cases fl with
    | ret u => exact I.after hq
    | next => exact False.elim hq
    | brk => exact False.elim hq
    | cont => exact False.elim hq
theorem op_eqOwn (F : FnOk X.prog X.w X.K X.mg X.base CX0 k f fd ps sp) (hr : Room (k + 1) X.A) (hb : Binds X.K fd ps []) (hs : PySem.W.findIn X.K (.ref C) "__eq__" = some (some (.ref f))) (hf : PySem.W.isFn X.K (.ref f) = true) :
    OpR X (compareOp .Eq) (rOwn2 X.K C sp id) := by
  intro pins s σ H x y v u Q I rx ry h
  obtain ⟨a, dx, fs, t, rfl, ha, ty, hn, hsp⟩ := h
  cases rx
  obtain ⟨P, Z, p, _⟩ := kit_of I ry ty
  obtain ⟨mA, J, _⟩ := ins_get I.hok ha
  obtain ⟨od, J, _⟩ := J.look
  obtain ⟨m, hF⟩ := I.fr
  show wpAny (model X.prog X.w) X.A (richCompare .Eq (.ref a) u) (EP X pins σ Q) X.xe s
  refine PySem.W.cmp_K (op := .Eq) (tb := t) hr.units0 hF I.ok.mod.kin J (Z.ty _ _ I.kIn p) hn hs hf ?_
  refine wpAny_mono (run_in F (hr.mono (Nat.le_succ k)) I.env0 hb I (vs := [.ref a, y]) (.cons rfl (.cons ry .nil)) hsp) (fun r s' z => ?_) fun _ _ e => e
  obtain ⟨z1, H', I', rz, b, rfl, q⟩ := z
  cases rz
  exact ⟨.bl b, H', I', rfl, q⟩
theorem op_neOwn (F : FnOk X.prog X.w X.K X.mg X.base CX0 k f fd ps sp) (hr : Room (k + 1) X.A) (hb : Binds X.K fd ps []) (hs : PySem.W.findIn X.K (.ref C) "__eq__" = some (some (.ref f))) (hf : PySem.W.isFn X.K (.ref f) = true)
    (hne : PySem.W.findIn X.K (.ref C) "__ne__" = some (some (.builtin "object.__ne__"))) (hm : PySem.W.mroIn X.K C (.type "object") = some true) :
    OpR X (compareOp .NotEq) (rOwn2 X.K C sp not) := by
  intro pins s σ H x y v u Q I rx ry h
  obtain ⟨a, dx, fs, t, rfl, ha, ty, hn, hsp⟩ := h
  cases rx
  obtain ⟨P, Z, p, _⟩ := kit_of I ry ty
  obtain ⟨mA, J, _⟩ := ins_get I.hok ha
  obtain ⟨od, J, _⟩ := J.look
  obtain ⟨m, hF⟩ := I.fr
  show wpAny (model X.prog X.w) X.A (richCompare .NotEq (.ref a) u) (EP X pins σ Q) X.xe s
  refine ne_K (tb := t) hr.units0 hr.in1.units0 hF I.ok.mod.kin J (Z.ty _ _ I.kIn p) hn hne hm hs hf ?_
  refine wpAny_mono (run_in (A := X.A.in1) F hr.in1 I.env0.in1 hb I (vs := [.ref a, y]) (.cons rfl (.cons ry .nil)) hsp) (fun r s' z => ?_) fun _ _ e => e
  obtain ⟨z1, H', I', rz, b, rfl, q⟩ := z
  cases rz
  exact ⟨b, rfl, .bl (!b), H', I', rfl, q⟩
/-- str of an instance -/
theorem call_strOwn (F : FnOk X.prog X.w X.K X.mg X.base CX0 k f fd ps sp) (hr : Room (k + 2) X.A) (hb : Binds X.K fd ps []) (hs : PySem.W.findIn X.K (.ref C) "__str__" = some (some (.ref f))) (hf : PySem.W.isFn X.K (.ref f) = true) :
    CallR X (.type "str") (fun xs H Q => ∃ a dx fs, xs = [.ref a] ∧ H a = some (.ins C dx fs) ∧ sp [.ref a] H (fun v H' => ∃ z, v = .str z ∧ Q v H') E0) := by
  intro pins s σ H xs us Q I r h
  obtain ⟨a, dx, fs, rfl, ha, hsp⟩ := h
  obtain ⟨u, rfl, ru⟩ := vals1 r
  cases ru
  obtain ⟨mA, J, _⟩ := ins_get I.hok ha
  obtain ⟨od, J, _⟩ := J.look
  refine str_K hr.in1.in1.units0 I.kIn J hs hf ?_
  refine wpAny_mono (run_in (A := X.A.in1.in1) F hr.in1.in1 I.env0.in1.in1 hb I (vs := [.ref a]) (.cons rfl .nil) hsp) (fun r s' z => ?_) fun _ _ e => e
  obtain ⟨z1, H', I', rz, y, rfl, q⟩ := z
  obtain ⟨t, rfl⟩ := rz
  exact ⟨.str y, H', I', ⟨t, rfl⟩, q⟩
/-- the same with the written part named -/
theorem op_eqOwnK {K : PySem.W.Frag} (hK : X.K = K) (F : FnOk X.prog X.w X.K X.mg X.base CX0 k f fd ps sp) (hr : Room (k + 1) X.A) (hb : Binds X.K fd ps []) (hs : PySem.W.findIn X.K (.ref C) "__eq__" = some (some (.ref f))) (hf : PySem.W.isFn X.K (.ref f) = true) :
    OpR X (compareOp .Eq) (rOwn2 K C sp id) := hK ▸ op_eqOwn F hr hb hs hf
end
end Fb

/-! Part A6: counting truths; orders. -/
namespace Fb
open PySem PySem.Spec PyProof.Rows L2
section
variable {X : Cx}
def isT : Value → Bool
  | .bool b => b
  | _ => false
/-- xs.count(True), xs a list of truths -/
def rCntB (K : PySem.W.Frag) : V → List V → Hp → VK → Prop := fun x xs H Q => ∃ (p : Addr) (bs : List Bool), x = .ref p ∧ xs = [.bl true] ∧ SqL K H p (bs.map V.bl) ∧ Q (.int (bs.count true : Nat)) H
theorem mt_countB : MtR X "list.count" (rCntB X.K) := by
  intro pins s σ H x xs v us Q I rx rxs h
  obtain ⟨p, bs, rfl, rfl, hs, q⟩ := h
  cases rx
  obtain ⟨u, rfl, ru⟩ := rxs.one
  cases ru
  obtain ⟨its, rv, ⟨⟨cls, dd, data, sl⟩, n, ho, hc, hdn, hd⟩, hlen⟩ := I.list hs
  simp only at hc hd
  subst hc hd
  have hb := rv.bls
  refine call_meets PySem.F.slot_list_count ⟨_, ho, rfl⟩ PySem.F.entry_list_count (PySem.F.args_list_count_2 _ _)
    (SeqAt.list_countAt p its.toArray n dd sl (.bool true) isT) ⟨ho, fun y hy => ?_, ?_⟩
  · have hy' : y ∈ its := by simpa using hy
    rw [hb] at hy'
    obtain ⟨b, _, rfl⟩ := List.mem_map.mp hy'
    have e := eqAt_V (A := X.A.in1) (s := s) (y := .bl b) (x := .bl true) (u := .bool b) (v := .bool true) rfl rfl rfl rfl
    have e2 : eqV (.bl b) (.bl true) = isT (.bool b) := by cases b <;> rfl
    rw [e2] at e
    exact e
  · have ec : its.toArray.toList.countP isT = bs.count true := by
      rw [hb]
      clear hb rv hs hlen hdn ho q
      induction bs with
      | nil => rfl
      | cons b r ih =>
        simp only [List.map_cons, List.countP_cons, List.count_cons] at ih ⊢
        cases b <;> simp_all [isT]
    refine ⟨.int (bs.count true : Nat), H, I.tok _, ⟨s.toks, ?_⟩, q⟩
    show Value.int ((its.toArray.toList.countP isT : Nat) : Int) s.toks = Value.int ((bs.count true : Nat) : Int) s.toks
    rw [ec]
end
theorem one_of_three (x y : Rat) : [decide (x < y), decide (x = y), decide (y < x)].count true = 1 := by
  by_cases h1 : x < y
  · have h2 : x ≠ y := Rat.ne_of_lt h1
    have h3 : ¬ y < x := Rat.not_lt.mpr (Rat.le_of_lt h1)
    simp [h1, h2, h3]
  · by_cases h2 : x = y
    · subst h2
      simp [h1]
    · have h3 : y < x := Rat.lt_of_le_of_ne (Rat.not_lt.mp h1) (fun e => h2 e.symm)
      simp [h1, h2, h3]
theorem lt_trans' {x y z : Rat} (h1 : x < y) (h2 : y < z) : x < z := by
  have h := Rat.le_trans (Rat.le_of_lt h1) (Rat.le_of_lt h2)
  refine Rat.lt_of_le_of_ne h fun e => ?_
  subst e
  exact Rat.not_le.mpr h1 (Rat.le_of_lt h2)
theorem bd0 : Bd 1 0 := ⟨by decide, by decide⟩
theorem bd1 : Bd 1 1 := ⟨by decide, by decide⟩
theorem rsum_rev : ∀ qs : List Rat, rsum qs.reverse = rsum qs
  | [] => rfl
  | q :: r => by
    rw [List.reverse_cons, rsum_append, rsum_rev r]
    show rsum r + (q + 0) = q + rsum r
    rw [Rat.add_zero, Rat.add_comm]
end Fb
namespace Fb
open PySem PySem.Spec PyProof.Rows L2
theorem cut_from {xs : List V} {k : Nat} (h : k ≤ xs.length) : cutV xs (some (k : Int)) none = xs.drop k := by
  unfold cutV
  rw [HT.sIx_nat, HT.sIx_none, Nat.min_eq_left h]
  exact List.take_of_length_le (by rw [List.length_drop]; exact Nat.le_refl _)
theorem cut_to {xs : List V} {k : Nat} (h : k ≤ xs.length) : cutV xs none (some (k : Int)) = xs.take k := by
  unfold cutV
  rw [HT.sIx_nat, HT.sIx_none, Nat.min_eq_left h]
  rfl
/-- a share with its bound -/
def Sh (C : Addr) (n : Nat) (G : Hp) (v : V) (q : Rat) : Prop := IsShare C G v q ∧ Bd n q
theorem Sh.mono {C : Addr} {n : Nat} {G G' : Hp} {v : V} {q : Rat} (h : Sh C n G v q) (s : Same G G') : Sh C n G' v q := ⟨h.1.mono s, h.2⟩
theorem AllAre.few {C : Addr} {n N : Nat} {G : Hp} {vs : List V} {qs : List Rat} (h : AllAre (Sh C n G) vs qs) (l : vs.length ≤ N) (s : n * N ≤ 8000) (m : N ≤ 999) (p : 0 < n) : Few n N qs :=
  ⟨fun q hq => by obtain ⟨y, hy⟩ := h.mem hq; exact hy.2, by rw [← h.1]; exact l, s, m, p⟩
theorem AllAre.shares {C : Addr} {n : Nat} {G H : Hp} {p : Addr} {vs : List V} {qs : List Rat} (h : AllAre (Sh C n G) vs qs) (s : Same G H) (e : H p = some (.lst vs)) : IsShares C H (.ref p) qs :=
  ⟨p, vs, rfl, e, h.imp fun _ _ r => r.1.mono s⟩
theorem bd_div {n : Nat} {t b : Int} (h : b ≠ 0) (ht : t.natAbs < 2 ^ n) (hb : b.natAbs < 2 ^ n) : Bd n (Rat.divInt t b) := .divInt h ht hb
end Fb

/-! Part A7: errors of the program's own: made in a constructor inside a try, asked for their class in the suite. -/
namespace Fb
open PySem PySem.Spec PyProof.Rows L2
section
variable {X : Cx} {CX : CXT} {k : Nat} {f C : Addr} {fd : FuncData} {ps : List Str} {sp : Sp} {dvs : List V} {ds : List Value} {E : L2.St → XK} {x : Str} {p pos : Pos} {e : Expr} {es : List Expr} {t : TA}
theorem run_makeS {pins : List (Addr × Obj)} {σ : L2.St} {H : Hp} {s : Shared} {Q : VK} {us : List Value} {vs : List V} (M : Mk X.K C f) (F : FnOk X.prog X.w X.K X.mg X.base CX k f fd ps sp) (hr : Room (k + 1) X.A) (hb : Binds X.K fd ps ds) (hd : Vals dvs ds)
    (hx : PassesAt CX X σ (E σ)) (I : Inv X pins σ H s) (r : Vals vs us)
    (h : ∀ x dx, H x = none → H dx = none → dx ≠ x → sp (.ref x :: (vs ++ dvs)) (upd (upd H dx (.own x)) x (.ins C dx [])) (fun v H2 => v = .non ∧ Q (.ref x) H2) (E σ)) :
    wpAny (model X.prog X.w) X.A (call (.ref C) us) (EP X pins σ Q) X.xe s := by
  have hq := h (s.heap.objs.size + 1) s.heap.objs.size (I.hok.fresh (Nat.le_succ _)) (I.hok.fresh (Nat.le_refl _)) (Nat.ne_of_lt (Nat.lt_succ_self _))
  have I2 := Inv.made (C := C) I
  have r2 : Vals (V.ref (s.heap.objs.size + 1) :: (vs ++ dvs)) (Value.ref (s.heap.objs.size + 1) :: (us ++ ds)) := .cons rfl (r.append hd)
  have hl : (Value.ref (s.heap.objs.size + 1) :: us ++ ds).length = ps.length := by
    have e := r2.length
    rw [F.len _ _ _ _ hq] at e
    exact e.symm
  refine wpAny_call (make_map (f := f) I.kIn M.makes M.init (beq_iff_eq.mp M.fn) (codeAny_mono (F.run _ X.stack _ _ ⟨Value.ref (s.heap.objs.size + 1) :: us, []⟩ (Value.ref (s.heap.objs.size + 1) :: (us ++ ds)) _ _ (E σ) (hr.make C us [])
    (I2.env0.make C us []) (hb _ (Value.ref (s.heap.objs.size + 1) :: us) I2.kIn hl) r2 hq) fun r s' hq' => ?_))
  cases r with
  | error e => exact hx pins _ _ e s' I2 hq'
  | ok fl =>
    cases fl with
    | ret u =>
      obtain ⟨v, H', I3, rv, ev, q3⟩ := I2.after hq'
      subst ev
      exact ⟨rv, ⟨V.ref (s.heap.objs.size + 1), H', I3, rfl, q3⟩⟩
    | next => exact False.elim hq'
    | brk => exact False.elim hq'
    | cont => exact False.elim hq'
def tMakeS (C : Addr) (sp : Sp) (dvs : List V) (E : L2.St → XK) (t : TA) : TE := fun σ H Q => t σ H fun vs H1 => ∀ x dx, H1 x = none → H1 dx = none → dx ≠ x →
  sp (.ref x :: (vs ++ dvs)) (upd (upd H1 dx (.own x)) x (.ins C dx [])) (fun v H2 => v = .non ∧ Q (.ref x) H2) (E σ)
theorem pe_makeS (M : Mk X.K C f) (F : FnOk X.prog X.w X.K X.mg X.base CX k f fd ps sp) (hr : Room (k + 1) X.A) (hg : Gl X x) (hm : X.mg x = some (.ref C)) (hb : Binds X.K fd ps ds) (hd : Vals dvs ds) (hx : ∀ σ, PassesAt CX X σ (E σ))
    (ha : PA X (e :: es) t) (hdb : (x == ("__debug__" : Str)) = false := by decide) (he : starEach (e :: es) X.env = (false, eval e X.env) :: starEach es X.env := by rfl) (hpl : (backTo pos (starEach es X.env)).any (·.1) = false := by rfl) :
    PE X (.Call (.Name x p) (e :: es) [] pos) (tMakeS C sp dvs E t) := by
  refine ⟨fun pins s σ H Q I h => ?_⟩
  refine wpAny_Call_Name_kw (ld_glob I hg hm ?_ hdb)
  refine PySem.W.callWith_K (h₀ := X.base) I.ok.mod.kin M.kp (thn (ha.run pos pins s σ H _ I h) fun us s1 ⟨vs, H1, I1, r, q⟩ => ⟨I1.kIn, ?_⟩) he hpl
  exact run_makeS M F hr hb hd (hx σ) I1 r q
end
section
variable {X : Cx} {a : Addr} {oe : Obj} {cls : Value} {d : Option Addr} {pn : List (Addr × Obj)}
/-- isinstance(e, c) and isinstance(e, (c, ..)), e the error that the suite holds, of a class of the program's own -/
def rIsErr (K : PySem.W.Frag) (cls : Value) (d : Option Addr) (a : Addr) : List V → Hp → VK → Prop := fun xs H Q => ∃ (D : Addr) (c : V) (u : Value) (b : Bool), cls = .ref D ∧ d = none ∧ ExcC K D ∧ xs = [.ref a, c] ∧ ClsV c u ∧ PySem.W.kitOne K (.ref D) u = some b ∧ Q (.bl b) H
theorem call_isErr (hz : Zc cls d oe) (hf : ∃ vs, oe.data = .fields vs) : CallR (X.suite a ((a, oe) :: pn)) (.builtin "isinstance") (rIsErr X.K cls d a) := by
  intro pins s σ H xs us Q I r h
  obtain ⟨D, c, u, b, rfl, rfl, C, rfl, k, e, q⟩ := h
  exact call_isE (X := X) C hz hf pins s σ H _ us Q I r ⟨c, u, b, rfl, fun w hw => k.eq hw, e, q⟩
def rIsErrT (K : PySem.W.Frag) (cls : Value) (d : Option Addr) (a : Addr) : List V → Hp → VK → Prop := fun xs H Q => ∃ (D tp : Addr) (cs : List V) (us : List Value) (b : Bool), cls = .ref D ∧ d = none ∧ ExcC K D ∧ xs = [.ref a, .ref tp] ∧ H tp = some (.tup cs) ∧ Paired ClsV cs us ∧ PySem.W.kitAny K (.ref D) us = some b ∧ Q (.bl b) H
theorem call_isErrT (hz : Zc cls d oe) (hf : ∃ vs, oe.data = .fields vs) : CallR (X.suite a ((a, oe) :: pn)) (.builtin "isinstance") (rIsErrT X.K cls d a) := by
  intro pins s σ H xs us Q I r h
  obtain ⟨D, tp, cs, ws, b, rfl, rfl, C, rfl, hT, k, e, q⟩ := h
  obtain ⟨u1, u2, rfl, r1, r2⟩ := vals2 r
  cases r1
  cases r2
  obtain ⟨hget, _⟩ := I.pin (a, oe) (List.mem_append.mpr (.inl List.mem_cons_self))
  obtain ⟨vs, hv⟩ := hf
  have J : PySem.W.InstAt s.heap a oe D none := by
    obtain ⟨oc, od, oda, osl⟩ := oe
    obtain ⟨h1, h2⟩ := hz
    dsimp only at h1 h2 hv
    subst h1 h2 hv
    exact ⟨hget, rfl, rfl, trivial⟩
  obtain ⟨_, its, rv, o, h1, h2, n, h3⟩ := (show ObjOk X.prog X.w H s.heap tp (.tup cs) from I.hok tp _ hT)
  have e3 := ClsV.all k rv
  subst e3
  obtain ⟨oc, od, dt, sl⟩ := o
  simp only at h2 h3
  subst h2 h3
  exact PySem.W.kia_tup (PySem.W.handS_kitx_exc C.hg C.hk C.hs C.hd C.ha C.hn C.ht C.hm) I.kIn J h1 e (fun z => nomatch z) fun tk => ⟨.bl b, H, I.kept (t' := tk) fun _ _ z => z, rfl, q⟩
end
end Fb

/-! Part A8: == and != of lists whose items have an own __eq__, with either answer; pairs that stand for fractions. -/
namespace Fb
open PySem PySem.Spec PySem.SeqAt
open AutoSeq1 (wpAny_loadPart')
open MeetsSeq MeetsSeq2 MeetsSeq3 SeqRoads2
section
variable {prog : Program} {w : World} {A : Around} {R : Result → Shared → Prop}
def ListB (prog : Program) (w : World) (A : Around) (E : Value → Shared → Prop) (l b : Addr) (N : Nat) (e : Nat → Bool) (I : Shared → Prop) : Prop :=
  ∀ s, I s → ∃ (items items2 : Array Value) (n n2 : Nat), s.heap.get? l = some { cls := .type "list", data := .seq items n } ∧ s.heap.get? b = some { cls := .type "list", data := .seq items2 n2 } ∧ items.size = N ∧ items2.size = N ∧
    ∀ i (h1 : i < items.size) (h2 : i < items2.size), wpAny (model prog w) A.in1 (eqBool items[i] items2[i]) (fun r s' => r = e i ∧ I s') E s

/-- at each turn the two lists are read anew: N items each, of the i-th two e tells whether they are equal -/
theorem eq_loopB_eq (l b : Addr) (N : Nat) (e : Nat → Bool) (I : Shared → Prop) (hl : ListB prog w A (fun e s' => R (.error e) s') l b N e I)
    (fin : ∀ s, I s → R (.ok (.ret (.bool (((List.range N).all e))))) s) (k : Nat) :
    ∀ i : Nat, N - i = k → i ≤ N → ((List.range N).take i).all e = true → ∀ s, I s →
      wpAny (model prog w) A.in1 (Builtin.«list.__eq__.loop» ⟨[.ref l, .ref b, rawInt i, rawInt 2], []⟩) (GQ.FinOf prog w A R) (fun e s' => R (.error e) s') s := by
  induction k with
  | zero =>
    intro i hk hi ht s h
    obtain ⟨items, items2, n, n2, hl1, hb1, hs1, hs2, _⟩ := hl _ h
    have hi' : i = N := by omega
    have hR : R (.ok (.ret (.bool ( true)))) s := by
      have := fin s h
      rw [hi', List.take_of_length_le (by simp)] at ht
      rwa [ht] at this
    obtain ⟨hp, g, d, tk, os⟩ := s
    wp_walk using wpAny_loadPart' hl1, wpAny_loadPart' hb1
    have hi1 : items[((i : Nat) : Int).toNat]? = none := by simp; omega
    have hi2 : items2[((i : Nat) : Int).toNat]? = none := by simp; omega
    rw [hi1, hi2]
    wp_walk using wpAny_loadPart' hl1, wpAny_loadPart' hb1
    show R (.ok (.ret (.bool (items.size == items2.size)))) _
    rw [hs1, hs2]
    simpa using hR
  | succ k ih =>
    intro i hk hi ht s h
    obtain ⟨items, items2, n, n2, hl1, hb1, hs1, hs2, turn⟩ := hl _ h
    have hlt : i < items.size := by omega
    have hlt2 : i < items2.size := by omega
    have htn := turn i hlt hlt2
    obtain ⟨hp, g, d, tk, os⟩ := s
    wp_walk using wpAny_loadPart' hl1, wpAny_loadPart' hb1
    have hi1 : items[((i : Nat) : Int).toNat]? = some items[i] := by simp [hlt]
    have hi2 : items2[((i : Nat) : Int).toNat]? = some items2[i] := by simp [hlt2]
    have hc : ((i : Int) + 1) = ((i + 1 : Nat) : Int) := by omega
    rw [hi1, hi2]
    refine wpAny_bind (wpAny_mono htn (fun r s2 h2 => ?_) fun _ _ x => x)
    obtain ⟨hr, h2⟩ := h2
    have hd : (List.range N).drop i = i :: (List.range N).drop (i + 1) := by
      rw [List.drop_eq_getElem_cons (by simp; omega)]
      simp
    cases hb' : e i with
    | true =>
      rw [hb'] at hr
      subst hr
      have ht2 : ((List.range N).take (i + 1)).all e = true := by
        rw [List.take_add_one, List.all_append, ht]
        simp [show i < N by omega, hb']
      have hrec := ih (i + 1) (by omega) (by omega) ht2 s2 h2
      obtain ⟨hp2, g2, d2, tk2, os2⟩ := s2
      wp_walk
      rw [hc]
      exact ⟨plainId_quiet plain_eq_loop _, codeAny_builtin entry_eq_loop (by
        rw [Around.under_plainId plain_eq_loop _]
        exact hrec)⟩
    | false =>
      rw [hb'] at hr
      subst hr
      have hR := fin s2 h2
      have hall : (List.range N).all e = false := by
        rw [← List.take_append_drop i (List.range N), List.all_append, ht, hd, List.all_cons, hb']
        rfl
      rw [hall] at hR
      obtain ⟨items', items2', n', n2', hl2, hb2, hs1', hs2', _⟩ := hl _ h2
      obtain ⟨hp2, g2, d2, tk2, os2⟩ := s2
      have hi1' : items'[((i : Nat) : Int).toNat]? = some (items'[i]'(by omega)) := by simp [show i < items'.size by omega]
      have hi2' : items2'[((i : Nat) : Int).toNat]? = some (items2'[i]'(by omega)) := by simp [show i < items2'.size by omega]
      wp_walk using wpAny_loadPart' hl2, wpAny_loadPart' hb2
      rw [hi1', hi2']
      wp_walk
      simpa using hR
theorem list_eqB_eq (l b : Addr) (N : Nat) (e : Nat → Bool) (I : Shared → Prop) (hl : ListB prog w A (fun e s' => R (.error e) s') l b N e I)
    (fin : ∀ s, I s → R (.ok (.ret (.bool (((List.range N).all e))))) s) {s : Shared} (h : I s) :
    wpAny (model prog w) A.in1 (Builtin.«list.__eq__» ⟨[.ref l, .ref b], []⟩) (GQ.FinOf prog w A R) (fun e s' => R (.error e) s') s := by
  obtain ⟨items, items2, n, n2, hl1, hb1, hs1, hs2, _⟩ := hl _ h
  have hrec := eq_loopB_eq (A := A) (R := R) l b N e I hl fin _ 0 rfl (Nat.zero_le _) rfl s h
  obtain ⟨hp, g, d, tk, os⟩ := s
  have f3 := AutoSeq1.sub_list_list
  have hne : ¬ (items.size != items2.size) = true := by simp [hs1, hs2]
  wp_walk using wpAny_loadPart' hl1, wpAny_loadPart' hb1
  exact ⟨plainId_quiet plain_eq_loop _, codeAny_builtin entry_eq_loop (by
    rw [Around.under_plainId plain_eq_loop _]
    exact hrec)⟩
theorem rc_listB_eq {E : Value → Shared → Prop} {s : Shared} {l b : Addr} {N : Nat} {Q : Value → Shared → Prop} (hu : A.units < cLine) (e : Nat → Bool) (I : Shared → Prop) (hl : ListB prog w A E l b N e I)
    (fin : ∀ s, I s → Q (.bool (((List.range N).all e))) s) (h : I s) : wpAny (model prog w) A (richCompare .Eq (.ref l) (.ref b)) Q E s := by
  obtain ⟨items, items2, n, n2, hl1, hb1, _, _, _⟩ := hl _ h
  refine wpAny_richCompare_same_room (op := .Eq) ⟨_, hl1, rfl⟩ ⟨_, hb1, rfl⟩ F.slot_list_eq (GQ.call_here F.slot_list_eq ⟨_, hl1, rfl⟩ F.entry_list_eq (F.args_list_eq_2 _ _) ?_) hu
  exact list_eqB_eq (R := wants (fun v s' => v ≠ .notImplemented ∧ Q v s') E) l b N e I hl (fun s' q => ⟨(fun x => nomatch x), fin s' q⟩) h

/-- at each turn the two lists are read anew: N items each, of the i-th two e tells whether they are equal -/
theorem eq_loopB_ne (l b : Addr) (N : Nat) (e : Nat → Bool) (I : Shared → Prop) (hl : ListB prog w A (fun e s' => R (.error e) s') l b N e I)
    (fin : ∀ s, I s → R (.ok (.ret (.bool (!((List.range N).all e))))) s) (k : Nat) :
    ∀ i : Nat, N - i = k → i ≤ N → ((List.range N).take i).all e = true → ∀ s, I s →
      wpAny (model prog w) A.in1 (Builtin.«list.__eq__.loop» ⟨[.ref l, .ref b, rawInt i, rawInt 3], []⟩) (GQ.FinOf prog w A R) (fun e s' => R (.error e) s') s := by
  induction k with
  | zero =>
    intro i hk hi ht s h
    obtain ⟨items, items2, n, n2, hl1, hb1, hs1, hs2, _⟩ := hl _ h
    have hi' : i = N := by omega
    have hR : R (.ok (.ret (.bool (! true)))) s := by
      have := fin s h
      rw [hi', List.take_of_length_le (by simp)] at ht
      rwa [ht] at this
    obtain ⟨hp, g, d, tk, os⟩ := s
    wp_walk using wpAny_loadPart' hl1, wpAny_loadPart' hb1
    have hi1 : items[((i : Nat) : Int).toNat]? = none := by simp; omega
    have hi2 : items2[((i : Nat) : Int).toNat]? = none := by simp; omega
    rw [hi1, hi2]
    wp_walk using wpAny_loadPart' hl1, wpAny_loadPart' hb1
    show R (.ok (.ret (.bool (items.size != items2.size)))) _
    rw [hs1, hs2]
    simpa using hR
  | succ k ih =>
    intro i hk hi ht s h
    obtain ⟨items, items2, n, n2, hl1, hb1, hs1, hs2, turn⟩ := hl _ h
    have hlt : i < items.size := by omega
    have hlt2 : i < items2.size := by omega
    have htn := turn i hlt hlt2
    obtain ⟨hp, g, d, tk, os⟩ := s
    wp_walk using wpAny_loadPart' hl1, wpAny_loadPart' hb1
    have hi1 : items[((i : Nat) : Int).toNat]? = some items[i] := by simp [hlt]
    have hi2 : items2[((i : Nat) : Int).toNat]? = some items2[i] := by simp [hlt2]
    have hc : ((i : Int) + 1) = ((i + 1 : Nat) : Int) := by omega
    rw [hi1, hi2]
    refine wpAny_bind (wpAny_mono htn (fun r s2 h2 => ?_) fun _ _ x => x)
    obtain ⟨hr, h2⟩ := h2
    have hd : (List.range N).drop i = i :: (List.range N).drop (i + 1) := by
      rw [List.drop_eq_getElem_cons (by simp; omega)]
      simp
    cases hb' : e i with
    | true =>
      rw [hb'] at hr
      subst hr
      have ht2 : ((List.range N).take (i + 1)).all e = true := by
        rw [List.take_add_one, List.all_append, ht]
        simp [show i < N by omega, hb']
      have hrec := ih (i + 1) (by omega) (by omega) ht2 s2 h2
      obtain ⟨hp2, g2, d2, tk2, os2⟩ := s2
      wp_walk
      rw [hc]
      exact ⟨plainId_quiet plain_eq_loop _, codeAny_builtin entry_eq_loop (by
        rw [Around.under_plainId plain_eq_loop _]
        exact hrec)⟩
    | false =>
      rw [hb'] at hr
      subst hr
      have hR := fin s2 h2
      have hall : (List.range N).all e = false := by
        rw [← List.take_append_drop i (List.range N), List.all_append, ht, hd, List.all_cons, hb']
        rfl
      rw [hall] at hR
      obtain ⟨items', items2', n', n2', hl2, hb2, hs1', hs2', _⟩ := hl _ h2
      obtain ⟨hp2, g2, d2, tk2, os2⟩ := s2
      have hi1' : items'[((i : Nat) : Int).toNat]? = some (items'[i]'(by omega)) := by simp [show i < items'.size by omega]
      have hi2' : items2'[((i : Nat) : Int).toNat]? = some (items2'[i]'(by omega)) := by simp [show i < items2'.size by omega]
      wp_walk using wpAny_loadPart' hl2, wpAny_loadPart' hb2
      rw [hi1', hi2']
      wp_walk
      simpa using hR
theorem list_eqB_ne (l b : Addr) (N : Nat) (e : Nat → Bool) (I : Shared → Prop) (hl : ListB prog w A (fun e s' => R (.error e) s') l b N e I)
    (fin : ∀ s, I s → R (.ok (.ret (.bool (!((List.range N).all e))))) s) {s : Shared} (h : I s) :
    wpAny (model prog w) A.in1 (Builtin.«list.__ne__» ⟨[.ref l, .ref b], []⟩) (GQ.FinOf prog w A R) (fun e s' => R (.error e) s') s := by
  obtain ⟨items, items2, n, n2, hl1, hb1, hs1, hs2, _⟩ := hl _ h
  have hrec := eq_loopB_ne (A := A) (R := R) l b N e I hl fin _ 0 rfl (Nat.zero_le _) rfl s h
  obtain ⟨hp, g, d, tk, os⟩ := s
  have f3 := AutoSeq1.sub_list_list
  have hne : ¬ (items.size != items2.size) = true := by simp [hs1, hs2]
  wp_walk using wpAny_loadPart' hl1, wpAny_loadPart' hb1
  exact ⟨plainId_quiet plain_eq_loop _, codeAny_builtin entry_eq_loop (by
    rw [Around.under_plainId plain_eq_loop _]
    exact hrec)⟩
theorem rc_listB_ne {E : Value → Shared → Prop} {s : Shared} {l b : Addr} {N : Nat} {Q : Value → Shared → Prop} (hu : A.units < cLine) (e : Nat → Bool) (I : Shared → Prop) (hl : ListB prog w A E l b N e I)
    (fin : ∀ s, I s → Q (.bool (!((List.range N).all e))) s) (h : I s) : wpAny (model prog w) A (richCompare .NotEq (.ref l) (.ref b)) Q E s := by
  obtain ⟨items, items2, n, n2, hl1, hb1, _, _, _⟩ := hl _ h
  refine wpAny_richCompare_same_room (op := .NotEq) ⟨_, hl1, rfl⟩ ⟨_, hb1, rfl⟩ F.slot_list_ne (GQ.call_here F.slot_list_ne ⟨_, hl1, rfl⟩ F.entry_list_ne (F.args_list_ne_2 _ _) ?_) hu
  exact list_eqB_ne (R := wants (fun v s' => v ≠ .notImplemented ∧ Q v s') E) l b N e I hl (fun s' q => ⟨(fun x => nomatch x), fin s' q⟩) h
end
end Fb

namespace Fb
open PySem PySem.Spec PyProof.Rows L2
/-- what == of two values tells, by the abstract heap -/
abbrev EqvB := V → V → Bool → Hp → Prop
/-- == tells what D says, and nothing else changes -/
def EqB (X : Cx) (n : Nat) (D : EqvB) : Prop :=
  ∀ (A : Around) (pins : List (Addr × Obj)) (s : Shared) (σ : L2.St) (H : Hp) (x y : V) (u v : Value) (b : Bool), Sub X n A → Inv X pins σ H s → RelV x u → RelV y v → D x y b H →
    wpAny (model X.prog X.w) A (eqBool u v) (fun r s' => r = b ∧ Inv X pins σ H s') X.xe s
def RcB (X : Cx) (n : Nat) (op : CmpOp) (g : Bool → Bool) (D : EqvB) : Prop :=
  ∀ (A : Around) (pins : List (Addr × Obj)) (s : Shared) (σ : L2.St) (H : Hp) (x y : V) (u v : Value) (b : Bool), Sub X n A → Inv X pins σ H s → RelV x u → RelV y v → D x y b H →
    wpAny (model X.prog X.w) A (richCompare op u v) (fun r s' => r = .bool (g b) ∧ Inv X pins σ H s') X.xe s
def Refl (D : EqvB) : Prop := ∀ x b H, D x x b H → b = true
section
variable {X : Cx} {n : Nat} {D : EqvB}
theorem RcB.eqB (h : RcB X n .Eq id D) (hr : ∀ x y b H, D x y b H → ∃ a c, x = .ref a ∧ y = .ref c) (hf : Refl D) : EqB X n D := by
  intro A pins s σ H x y u v b sb I rx ry d
  obtain ⟨a, c, rfl, rfl⟩ := hr _ _ _ _ d
  cases rx
  cases ry
  by_cases hab : a = c
  · subst hab
    rw [hf _ _ _ d]
    exact SeqAt.EqAt.same (A := A) (s := s) (.ref a) X.prog X.w X.xe _ ⟨rfl, I⟩
  · refine GQ.eqBool_refG hab (wpAny_mono (h A pins s σ H (.ref a) (.ref c) _ _ b sb I rfl rfl d) (fun r s' q => ?_) fun _ _ x => x)
    obtain ⟨hr', q⟩ := q
    exact ⟨b, hr', rfl, q⟩
/-- instances of the class at C with the text's own ==, whose promise sp tells b and changes nothing -/
def DInsB (C : Addr) (sp : Sp) : EqvB := fun x y b H => ∃ a c dx dy fs gs, x = .ref a ∧ y = .ref c ∧ H a = some (.ins C dx fs) ∧ H c = some (.ins C dy gs) ∧ sp [x, y] H (fun v H' => v = .bl b ∧ H' = H) E0
theorem rcB_ins {C f : Addr} {fd : FuncData} {ps : List Str} {sp : Sp} (F : FnOk X.prog X.w X.K X.mg X.base CX0 n f fd ps sp)
    (hs : PySem.W.findIn X.K (.ref C) "__eq__" = some (some (.ref f))) (hf : PySem.W.isFn X.K (.ref f) = true) (hb : Binds X.K fd ps []) : RcB X n .Eq id (DInsB C sp) := by
  intro A pins s σ H x y u v b sb I rx ry d
  obtain ⟨a, c, dx, dy, fs, gs, rfl, rfl, ha, hc, hsp⟩ := d
  cases rx
  cases ry
  obtain ⟨mA, J, _⟩ := ins_get I.hok ha
  obtain ⟨mB, J', _⟩ := ins_get I.hok hc
  obtain ⟨od, J, _⟩ := J.look
  obtain ⟨od', J', _⟩ := J'.look
  obtain ⟨m, hF⟩ := I.fr
  refine PySem.W.cmp_K (op := .Eq) (tb := .ref C) sb.room.units0 hF I.ok.mod.kin J J'.type (by simp [PySem.W.notFirst]) hs hf ?_
  have e0 : Env0 X.prog X.w X.K X.mg X.base A X.stack s H := by
    have e := I.env0
    exact ⟨by rw [sb.fr]; exact e.frames, e.mod, e.bs, e.bsz, e.funs, e.frf, e.hok, e.bare⟩
  refine wpAny_mono (run_in F sb.room e0 hb I (vs := [.ref a, .ref c]) (.cons rfl (.cons rfl .nil)) hsp) (fun r s' z => ?_) fun _ _ e => e
  obtain ⟨z1, H', I', rz, rfl, rfl⟩ := z
  cases rz
  exact ⟨rfl, I'⟩
def DListB (D : EqvB) : EqvB := fun x y b H => ∃ a c xs ys, x = .ref a ∧ y = .ref c ∧ H a = some (.lst xs) ∧ H c = some (.lst ys) ∧ xs.length = ys.length ∧
  ∃ e : Nat → Bool, (∀ (i : Nat) x y, xs[i]? = some x → ys[i]? = some y → D x y (e i) H) ∧ b = (List.range xs.length).all e
theorem refl_list (h : Refl D) : Refl (DListB D) := by
  intro x b H d
  obtain ⟨a, c, xs, ys, rfl, e, ha, hc, _, f, hf, rfl⟩ := d
  cases e
  rw [ha] at hc
  cases hc
  rw [List.all_eq_true]
  intro i hi
  have hi : i < xs.length := by simpa using hi
  exact h _ _ _ (hf i xs[i] xs[i] (List.getElem?_eq_getElem hi) (List.getElem?_eq_getElem hi))
theorem turnB (h : EqB X n D) {A : Around} (sb : Sub X (n + 1) A) {pins : List (Addr × Obj)} {σ : L2.St} {H : Hp} {xs ys : List V} {its its2 : List Value} {e : Nat → Bool} (p : ∀ (i : Nat) x y, xs[i]? = some x → ys[i]? = some y → D x y (e i) H) (r : Vals xs its) (r2 : Vals ys its2)
    (i : Nat) (h1 : i < its.toArray.size) (h2 : i < its2.toArray.size) (s' : Shared) (l : Inv X pins σ H s') :
    wpAny (model X.prog X.w) A.in1 (eqBool its.toArray[i] its2.toArray[i]) (fun r s2 => r = e i ∧ Inv X pins σ H s2) X.xe s' := by
  have g1 : its[i]? = some its.toArray[i] := by
    have h1' : i < its.length := by simpa using h1
    rw [List.getElem?_eq_getElem h1'] <;> simp
  have g2 : its2[i]? = some its2.toArray[i] := by
    have h2' : i < its2.length := by simpa using h2
    rw [List.getElem?_eq_getElem h2'] <;> simp
  have k1 : i < xs.length := by rw [r.length]; simpa using h1
  have k2 : i < ys.length := by rw [r2.length]; simpa using h2
  obtain ⟨u, hu, ru⟩ := r.get (List.getElem?_eq_getElem k1)
  obtain ⟨v, hv, rv⟩ := r2.get (List.getElem?_eq_getElem k2)
  rw [g1] at hu
  rw [g2] at hv
  rw [Option.some.inj hu, Option.some.inj hv]
  exact h A.in1 pins s' σ H _ _ u v _ sb.in1 l ru rv (p i _ _ (List.getElem?_eq_getElem k1) (List.getElem?_eq_getElem k2))
theorem rcB_list (h : EqB X n D) : RcB X (n + 1) .Eq id (DListB D) := by
  intro A pins s σ H x y u v b sb I rx ry d
  obtain ⟨a, c, xs, ys, rfl, rfl, ha, hc, hl, e, p, rfl⟩ := d
  cases rx
  cases ry
  refine rc_listB_eq (N := xs.length) sb.room.units0 e (fun s' => Inv X pins σ H s') (fun s' q => ?_) (fun s' q => ⟨rfl, q⟩) I
  obtain ⟨z, its, k, r, ea⟩ := q.hok a _ ha
  obtain ⟨z2, its2, k2, r2, ec⟩ := q.hok c _ hc
  exact ⟨its.toArray, its2.toArray, k, k2, ea, ec, by rw [List.size_toArray, ← r.length], by rw [List.size_toArray, ← r2.length, hl], fun i h1 h2 => turnB h sb p r r2 i h1 h2 s' q⟩
theorem rcB_listN (h : EqB X n D) : RcB X (n + 1) .NotEq not (DListB D) := by
  intro A pins s σ H x y u v b sb I rx ry d
  obtain ⟨a, c, xs, ys, rfl, rfl, ha, hc, hl, e, p, rfl⟩ := d
  cases rx
  cases ry
  refine rc_listB_ne (N := xs.length) sb.room.units0 e (fun s' => Inv X pins σ H s') (fun s' q => ?_) (fun s' q => ⟨rfl, q⟩) I
  obtain ⟨z, its, k, r, ea⟩ := q.hok a _ ha
  obtain ⟨z2, its2, k2, r2, ec⟩ := q.hok c _ hc
  exact ⟨its.toArray, its2.toArray, k, k2, ea, ec, by rw [List.size_toArray, ← r.length], by rw [List.size_toArray, ← r2.length, hl], fun i h1 h2 => turnB h sb p r r2 i h1 h2 s' q⟩
theorem eqB_list (h : EqB X n D) (hf : Refl D) : EqB X (n + 1) (DListB D) := (rcB_list h).eqB (fun _ _ _ _ d => let ⟨a, c, _, _, hx, hy, _⟩ := d; ⟨a, c, hx, hy⟩) (refl_list hf)
/-- x == y, x != y as expressions -/
def rEqB (g : Bool → Bool) (D : EqvB) : R2 := fun x y H Q => ∃ b, D x y b H ∧ Q (.bl (g b)) H
theorem op_eqB (h : RcB X n .Eq id D) (hr : Room n X.A) : OpR X (compareOp .Eq) (rEqB id D) := by
  intro pins s σ H x y v u Q I rx ry hq
  obtain ⟨b, d, q⟩ := hq
  show wpAny (model X.prog X.w) X.A (richCompare .Eq v u) (EP X pins σ Q) X.xe s
  refine wpAny_mono (h X.A pins s σ H x y v u b ⟨hr, rfl⟩ I rx ry d) (fun r s' z => ?_) fun _ _ x => x
  obtain ⟨rfl, I'⟩ := z
  exact ⟨.bl b, H, I', rfl, q⟩
theorem op_neB (h : RcB X n .NotEq not D) (hr : Room n X.A) : OpR X (compareOp .NotEq) (rEqB not D) := by
  intro pins s σ H x y v u Q I rx ry hq
  obtain ⟨b, d, q⟩ := hq
  show wpAny (model X.prog X.w) X.A (richCompare .NotEq v u) (EP X pins σ Q) X.xe s
  refine wpAny_mono (h X.A pins s σ H x y v u b ⟨hr, rfl⟩ I rx ry d) (fun r s' z => ?_) fun _ _ x => x
  obtain ⟨rfl, I'⟩ := z
  exact ⟨.bl (!b), H, I', rfl, q⟩
end
/-! ### tuples, != with equal items -/
section
open PySem.SeqAt MeetsSeq MeetsSeq2 MeetsSeq3 SeqRoads2
open AutoSeq1 (wpAny_loadPart')
variable {prog : Program} {w : World} {A : Around} {R : Result → Shared → Prop}
theorem tuple_neG (l b : Addr) (items items2 : Array Value) (n n2 : Nat) (dd dd2 : Option Addr) (sl sl2 : Array (Option Value)) (hsz : items.size = items2.size) (I : Shared → Prop)
    (turn : ∀ i (h1 : i < items.size) (h2 : i < items2.size) s, I s → wpAny (model prog w) A.in1 (eqBool items[i] items2[i]) (fun r s' => r = true ∧ I s') (fun e s' => R (.error e) s') s)
    (fin : ∀ s, I s → R (.ok (.ret (.bool false))) s) {s : Shared} (hl1 : s.heap.get? l = some { cls := .type "tuple", dict := dd, data := .seq items n, slots := sl }) (hb1 : s.heap.get? b = some { cls := .type "tuple", dict := dd2, data := .seq items2 n2, slots := sl2 }) (h : I s) :
    wpAny (model prog w) A.in1 (Builtin.«tuple.__ne__» ⟨[.ref l, .ref b], []⟩) (GQ.FinOf prog w A R) (fun e s' => R (.error e) s') s := by
  have f2 := AutoSeq1.sub_tuple_tuple
  have hZ : (items.toList.zip items2.toList).length = items.size := by simp [hsz]
  have h0 := h
  obtain ⟨hp, g, d, tk, os⟩ := s
  wp_walk using wpAny_loadPart' hl1, wpAny_loadPart' hb1, wpAny_forIn_list _ (fun rest b s' => b.1 = none ∧ ∃ i, rest = (items.toList.zip items2.toList).drop i ∧ i ≤ items.size ∧ I s') _
  case turn =>
    rintro ⟨y, x⟩ rest b s' ⟨hb', i, hz, hi, hI⟩
    have hlt : i < (items.toList.zip items2.toList).length := by
      rcases Nat.lt_or_ge i (items.toList.zip items2.toList).length with h' | h'
      · exact h'
      · rw [List.drop_of_length_le h'] at hz; cases hz
    have h1 : i < items.size := hZ ▸ hlt
    have h2 : i < items2.size := hsz ▸ h1
    rw [List.drop_eq_getElem_cons hlt] at hz
    injection hz with hyx hrest
    have hy : y = items[i] := by have := congrArg Prod.fst hyx; simpa using this
    have hx : x = items2[i] := by have := congrArg Prod.snd hyx; simpa using this
    subst hy hx
    refine wpAny_bind (wpAny_mono (turn i h1 h2 s' hI) (fun r s2 q2 => ?_) fun _ _ x => x)
    obtain ⟨hr, q2⟩ := q2
    subst hr
    wp_walk
    exact ⟨rfl, i + 1, hrest, h1, q2⟩
  case fin =>
    rintro ⟨b1, b2⟩ s' ⟨hb', i, hz, hi, hI⟩
    simp only at hb'
    subst hb'
    have hR : R (.ok (.ret (.bool false))) s' := fin s' hI
    wp_walk
    simpa [Builtin.Tuple.tupleCompareSizes, hsz] using hR
  case h =>
    exact ⟨rfl, 0, rfl, Nat.zero_le _, h0⟩
theorem rc_tupN {E : Value → Shared → Prop} {s : Shared} {l b : Addr} {items items2 : Array Value} {Q : Value → Shared → Prop} (hsz : items.size = items2.size) (hu : A.units < cLine) (I : Shared → Prop)
    (hl : s.heap.IsTuple l items) (hb : s.heap.IsTuple b items2)
    (turn : ∀ i (h1 : i < items.size) (h2 : i < items2.size) s, I s → wpAny (model prog w) A.in1 (eqBool items[i] items2[i]) (fun r s' => r = true ∧ I s') E s)
    (fin : ∀ s, I s → Q (.bool false) s) (h : I s) : wpAny (model prog w) A (richCompare .NotEq (.ref l) (.ref b)) Q E s := by
  obtain ⟨⟨cls, dd, data, sl⟩, ho, hc, n, hd⟩ := id hl
  obtain ⟨⟨cls2, dd2, data2, sl2⟩, ho2, hc2, n2, hd2⟩ := id hb
  simp only at hc hd hc2 hd2
  subst hc hd hc2 hd2
  refine wpAny_richCompare_same_room (op := .NotEq) ⟨_, ho, rfl⟩ ⟨_, ho2, rfl⟩ F.slot_tuple_ne (GQ.call_here F.slot_tuple_ne ⟨_, ho, rfl⟩ F.entry_tuple_ne (F.args_tuple_ne_2 _ _) ?_) hu
  exact tuple_neG (R := wants (fun v s' => v ≠ .notImplemented ∧ Q v s') E) l b items items2 n n2 dd dd2 sl sl2 hsz I turn (fun s' q => ⟨(fun x => nomatch x), fin s' q⟩) ho ho2 h
end
section
variable {X : Cx} {n : Nat} {D : EqvB}
/-- two tuples of as many items, each two equal -/
def DTupT (K : PySem.W.Frag) (D : EqvB) : EqvB := fun x y b H => ∃ a c xs ys, x = .ref a ∧ y = .ref c ∧ SqT K H a xs ∧ SqT K H c ys ∧ xs.length = ys.length ∧ (∀ (i : Nat) x y, xs[i]? = some x → ys[i]? = some y → D x y true H) ∧ b = true
theorem rcB_tupN (h : EqB X n D) : RcB X (n + 1) .NotEq not (DTupT X.K D) := by
  intro A pins s σ H x y u v b sb I rx ry d
  obtain ⟨a, c, xs, ys, rfl, rfl, ha, hc, hl, p, rfl⟩ := d
  cases rx
  cases ry
  obtain ⟨its, r, e, z⟩ := I.tuple ha
  obtain ⟨its2, r2, e2, z2⟩ := I.tuple hc
  have hsz : its.toArray.size = its2.toArray.size := by rw [List.size_toArray, List.size_toArray, ← r.length, ← r2.length]; exact hl
  exact rc_tupN hsz sb.room.units0 (fun s' => Inv X pins σ H s') e e2 (fun i h1 h2 s' q => turnB (e := fun _ => true) h sb p r r2 i h1 h2 s' q) (fun s' q => ⟨rfl, q⟩) I
end
end Fb

namespace Fb
open PySem PySem.Spec PyProof.Rows L2
/-- a suite's if without else, both ways told by one condition -/
theorem ite_mid {c A : Prop} [Decidable c] {Rest : L2.St → Hp → Prop} {σ : L2.St} {H : Hp} (M : L2.St → Hp → Prop) (h1 : c → (∀ σ H, M σ H → Rest σ H) → A) (h2 : ¬ c → M σ H) (h3 : ∀ σ H, M σ H → Rest σ H) : if c then A else Rest σ H := by
  by_cases h : c
  · rw [if_pos h]
    exact h1 h h3
  · rw [if_neg h]
    exact h3 _ _ (h2 h)
theorem cr_sumK {X : Cx} {K : PySem.W.Frag} (hK : X.K = K) (hc : X.calm = true) : CallR X (.builtin "sum") (rSum K) := hK ▸ cr_sum hc
theorem none_back {H H' : Hp} {a p : Addr} {f : Nat} (s : Same (hid a H) (hid a H')) (w : WellAt H' a f) (h : H' p = none) : H p = none := by
  have hp : p ≠ a := w.ne h
  cases e : H p with
  | none => rfl
  | some o =>
    have := s p o (by rw [hid_ne hp]; exact e)
    rw [hid_ne hp, h] at this
    cases this
/-- a list of weights of the law's own, beside the well -/
structure WtAt (H : Hp) (a : Addr) (m : Nat) (B : Int) (f : Nat) (pw : Addr) (ns : List Int) (H' : Hp) : Prop where
  new : H pw = none
  ne : pw ≠ a
  at_ : H' pw = some (.lst (ns.map V.int))
  len : ns.length = m
  bd : ∀ x ∈ ns, 0 ≤ x ∧ x ≤ B
  same : Same (hid a H) (hid pw (hid a H'))
  well : WellAt H' a f
theorem WtAt.step {H : Hp} {a : Addr} {m : Nat} {B : Int} {f f' : Nat} {pw : Addr} {ns : List Int} {H1 H2 : Hp} (h : WtAt H a m B f pw ns H1) (s : Same (hid a H1) (hid a H2)) (w : WellAt H2 a f') : WtAt H a m B f' pw ns H2 := by
  refine ⟨h.new, h.ne, ?_, h.len, h.bd, h.same.trans (hid_mono s), w⟩
  have := s pw _ (by rw [hid_ne h.ne]; exact h.at_)
  rwa [hid_ne h.ne] at this
theorem WtAt.upB {H : Hp} {a : Addr} {m : Nat} {B B' : Int} {f : Nat} {pw : Addr} {ns : List Int} {H1 : Hp} (h : WtAt H a m B f pw ns H1) (l : B ≤ B') : WtAt H a m B' f pw ns H1 :=
  ⟨h.new, h.ne, h.at_, h.len, fun x hx => ⟨(h.bd x hx).1, Int.le_trans (h.bd x hx).2 l⟩, h.same, h.well⟩
theorem WtAt.set {H : Hp} {a : Addr} {m : Nat} {B : Int} {f : Nat} {pw : Addr} {ns : List Int} {H1 : Hp} (h : WtAt H a m B f pw ns H1) (j : Nat) {v : Int} (v0 : 0 ≤ v) (v1 : v ≤ B) : WtAt H a m B f pw (ns.set j v) (upd H1 pw (.lst ((ns.map V.int).set j (.int v)))) := by
  refine ⟨h.new, h.ne, by rw [upd_same, ← List.map_set], by rw [List.length_set, h.len], fun x hx => ?_, by rw [hid2_upd h.ne]; exact h.same, h.well.upd h.ne⟩
  rcases List.mem_or_eq_of_mem_set hx with e | e
  · exact h.bd x e
  · subst e
    exact ⟨v0, v1⟩
/-! ### heaps -/
/-- a heap as the law draws it -/
structure HeapOk (qs : List Rat) : Prop where
  nn : ∀ q ∈ qs, 0 ≤ q
  den : ∃ S : Nat, 0 < S ∧ S ≤ 1000 ∧ ∀ q ∈ qs, q.den ∣ S
  one : rsum qs = 1
theorem rsum_div (S : Int) : ∀ ns : List Int, rsum (ns.map fun x => Rat.divInt x S) = Rat.divInt ns.sum S
  | [] => by simp [rsum]
  | x :: r => by
    rw [List.map_cons, List.sum_cons, divInt_add_same, ← rsum_div S r]
    rfl
theorem sum_nn : ∀ {ns : List Int}, (∀ x ∈ ns, 0 ≤ x) → 0 ≤ ns.sum
  | [], _ => by simp
  | x :: r, h => by
    rw [List.sum_cons]
    have := h x List.mem_cons_self
    have := sum_nn (ns := r) fun y hy => h y (List.mem_cons_of_mem _ hy)
    omega
theorem sum_le {B : Int} : ∀ {ns : List Int}, (∀ x ∈ ns, x ≤ B) → ns.sum ≤ ns.length * B
  | [], _ => by simp
  | x :: r, h => by
    rw [List.sum_cons, List.length_cons]
    have := h x List.mem_cons_self
    have := sum_le (ns := r) fun y hy => h y (List.mem_cons_of_mem _ hy)
    have e : ((r.length + 1 : Nat) : Int) * B = (r.length : Int) * B + B := by
      rw [Int.natCast_add, Int.add_mul]
      simp
    rw [e]
    omega
theorem sum_ge : ∀ {ns : List Int}, (∀ x ∈ ns, 0 ≤ x) → ∀ {x : Int}, x ∈ ns → x ≤ ns.sum
  | y :: r, h, x, hx => by
    rw [List.sum_cons]
    have h0 := h y List.mem_cons_self
    have hr := sum_nn (ns := r) fun y hy => h y (List.mem_cons_of_mem _ hy)
    rcases List.mem_cons.mp hx with e | e
    · subst e
      omega
    · have := sum_ge (ns := r) (fun y hy => h y (List.mem_cons_of_mem _ hy)) e
      omega
theorem den_dvd_bot {t : Int} {S : Nat} (h : 0 < S) : (Rat.divInt t (S : Int)).den ∣ S := by
  rw [Rat.den_divInt, if_neg (by omega)]
  simp only [Int.natAbs_natCast]
  refine Nat.div_dvd_of_dvd ?_
  have := Int.gcd_dvd_left (S : Int) t
  exact Int.natCast_dvd_natCast.mp this
theorem heap_ok {ns : List Int} {B : Int} (hb : ∀ x ∈ ns, 0 ≤ x ∧ x ≤ B) (h0 : 0 < ns.sum) (hl : ns.length ≤ 12) (hB : 0 ≤ B ∧ B ≤ 60) : HeapOk (ns.map fun x => Rat.divInt x ns.sum) := by
  have hS : ((ns.sum.toNat : Nat) : Int) = ns.sum := by omega
  have le : ns.sum ≤ 1000 := by
    have := sum_le fun x hx => (hb x hx).2
    have := Int.mul_le_mul (a := (ns.length : Int)) (b := B) (c := 12) (d := 60) (by omega) hB.2 hB.1 (by decide)
    omega
  refine ⟨fun q hq => ?_, ⟨ns.sum.toNat, by omega, by omega, fun q hq => ?_⟩, ?_⟩
  · obtain ⟨x, hx, rfl⟩ := List.mem_map.mp hq
    exact (Rat.divInt_nonneg_iff_of_pos_right h0).mpr (hb x hx).1
  · obtain ⟨x, hx, rfl⟩ := List.mem_map.mp hq
    rw [← hS]
    exact den_dvd_bot (by omega)
  · rw [rsum_div, Rat.divInt_self' (by omega)]
end Fb

/-! Part A11: pairs that stand for fractions, vectors and tables of them; a list compared with []; the mathematics of filling. -/
namespace Fb
open PySem PySem.Spec PyProof.Rows L2
section
variable {X : Cx}
/-- a list against [] -/
def rNil (K : PySem.W.Frag) (g : Bool → Bool) : R2 := fun x y H Q => ∃ a c xs, x = .ref a ∧ y = .ref c ∧ SqL K H a xs ∧ SqL K H c [] ∧ Q (.bl (g xs.isEmpty)) H
theorem op_eqNil (hu : X.A.units < cLine) : OpR X (compareOp .Eq) (rNil X.K id) := by
  intro pins s σ H x y v u Q I rx ry h
  obtain ⟨a, c, xs, rfl, rfl, ha, hc, q⟩ := h
  cases rx
  cases ry
  obtain ⟨its, r, hl, _⟩ := I.list ha
  obtain ⟨its2, r2, hl2, _⟩ := I.list hc
  cases r2
  show wpAny (model X.prog X.w) X.A (richCompare .Eq (.ref a) (.ref c)) (EP X pins σ Q) X.xe s
  cases r with
  | nil => exact SeqAt.RcAt.lists (e := fun _ => true) hl.isList hl2.isList rfl hu (fun j h => absurd h (by simp)) X.prog X.w X.xe _ ⟨.bl true, H, I, rfl, q⟩
  | cons _ _ => exact SeqAt.RcAt.lists_lengths hl.isList hl2.isList (by simp) hu X.prog X.w X.xe _ ⟨.bl false, H, I, rfl, q⟩
theorem op_neNil (hu : X.A.units < cLine) : OpR X (compareOp .NotEq) (rNil X.K not) := by
  intro pins s σ H x y v u Q I rx ry h
  obtain ⟨a, c, xs, rfl, rfl, ha, hc, q⟩ := h
  cases rx
  cases ry
  obtain ⟨its, r, hl, _⟩ := I.list ha
  obtain ⟨its2, r2, hl2, _⟩ := I.list hc
  cases r2
  show wpAny (model X.prog X.w) X.A (richCompare .NotEq (.ref a) (.ref c)) (EP X pins σ Q) X.xe s
  cases r with
  | nil => exact SeqAt.RcNeAt.lists (e := fun _ => true) hl.isList hl2.isList rfl hu (fun j h => absurd h (by simp)) X.prog X.w X.xe _ ⟨.bl false, H, I, rfl, q⟩
  | cons _ _ => exact SeqAt.RcNeAt.lists_lengths hl.isList hl2.isList (by simp) hu X.prog X.w X.xe _ ⟨.bl true, H, I, rfl, q⟩
theorem op_eqNilK {K : PySem.W.Frag} (hK : X.K = K) (hu : X.A.units < cLine) : OpR X (compareOp .Eq) (rNil K id) := hK ▸ op_eqNil hu
end
/-! ### pairs -/
def IsPr (H : Hp) (v : V) (q : Rat) : Prop := IsTup2 H v q.num (q.den : Int)
theorem IsPr.mono {H H' : Hp} {v : V} {q : Rat} (h : IsPr H v q) (s : Same H H') : IsPr H' v q := IsTup2.mono h s
def IsPrs (H : Hp) (v : V) (qs : List Rat) : Prop := ∃ p vs, v = .ref p ∧ H p = some (.lst vs) ∧ AllAre (IsPr H) vs qs
theorem IsPrs.mono {H H' : Hp} {v : V} {qs : List Rat} (h : IsPrs H v qs) (s : Same H H') : IsPrs H' v qs := by
  obtain ⟨p, vs, e, h, a⟩ := h
  exact ⟨p, vs, e, s _ _ h, a.imp fun _ _ r => r.mono s⟩
/-- tuples stay -/
def TS (H H' : Hp) : Prop := ∀ p xs, H p = some (.tup xs) → H' p = some (.tup xs)
theorem TS.rfl' {H : Hp} : TS H H := fun _ _ h => h
theorem TS.trans {H H1 H2 : Hp} (a : TS H H1) (b : TS H1 H2) : TS H H2 := fun p xs h => b p xs (a p xs h)
theorem TS.same {H H' : Hp} (s : Same H H') : TS H H' := fun p xs h => s p _ h
theorem TS.well {H H' : Hp} {a : Addr} {n : Nat} (w : WellAt H a n) (s : Same (hid a H) (hid a H')) : TS H H' := fun p xs h => hid_same _ _ (s p _ (hid_keep w h (fun _ => nofun)))
theorem TS.lst {H : Hp} {p : Addr} {ys : List V} {o : HO} (h : H p = some (.lst ys)) : TS H (upd H p o) := fun b xs e => by
  rw [upd_ne (fun z => by rw [z, h] at e; cases e)]
  exact e
theorem IsPr.ts {H H' : Hp} {v : V} {q : Rat} (h : IsPr H v q) (s : TS H H') : IsPr H' v q := by
  obtain ⟨p, e, h⟩ := h
  exact ⟨p, e, s _ _ h⟩
theorem IsTup2.ts {H H' : Hp} {v : V} {t b : Int} (h : IsTup2 H v t b) (s : TS H H') : IsTup2 H' v t b := by
  obtain ⟨p, e, h⟩ := h
  exact ⟨p, e, s _ _ h⟩
/-- a list of m pairs -/
def VecAt (H : Hp) (p : Addr) (m : Nat) (h : Nat → Rat) : Prop := ∃ vs, H p = some (.lst vs) ∧ vs.length = m ∧ ∀ (i : Nat) v, vs[i]? = some v → IsPr H v (h i)
theorem VecAt.ts {H H' : Hp} {p : Addr} {m : Nat} {h : Nat → Rat} (v : VecAt H p m h) (s : TS H H') (e : H' p = H p) : VecAt H' p m h := by
  obtain ⟨vs, ev, l, r⟩ := v
  exact ⟨vs, by rw [e]; exact ev, l, fun i v hv => (r i v hv).ts s⟩
theorem VecAt.at {H : Hp} {p : Addr} {m : Nat} {h : Nat → Rat} (v : VecAt H p m h) {j : Nat} (hj : j < m) : ∃ vs x, H p = some (.lst vs) ∧ vs.length = m ∧ vs[j]? = some x ∧ IsPr H x (h j) := by
  obtain ⟨vs, ev, l, r⟩ := v
  have hj' : j < vs.length := by omega
  exact ⟨vs, _, ev, l, List.getElem?_eq_getElem hj', r j _ (List.getElem?_eq_getElem hj')⟩
def put (h : Nat → Rat) (j : Nat) (z : Rat) : Nat → Rat := fun i => if i = j then z else h i
theorem VecAt.set {H : Hp} {p : Addr} {m : Nat} {h : Nat → Rat} {vs : List V} {j : Nat} {x : V} {z : Rat} (v : VecAt H p m h) (e : H p = some (.lst vs)) (hx : IsPr H x z) : VecAt (upd H p (.lst (vs.set j x))) p m (put h j z) := by
  obtain ⟨vs', ev, l, r⟩ := v
  rw [e] at ev
  cases ev
  have s : TS H (upd H p (.lst (vs.set j x))) := TS.lst e
  refine ⟨_, upd_same, by rw [List.length_set, l], fun i y hy => ?_⟩
  unfold put
  rw [List.getElem?_set] at hy
  by_cases hij : j = i
  · subst hij
    rw [if_pos rfl] at hy
    rw [if_pos rfl]
    split at hy
    · cases hy
      exact hx.ts s
    · cases hy
  · rw [if_neg hij] at hy
    rw [if_neg (fun z => hij z.symm)]
    exact (r i y hy).ts s
/-! ### sums over ranges -/
def rsumN (n : Nat) (f : Nat → Rat) : Rat := rsum ((List.range n).map f)
theorem rsumN_succ (n : Nat) (f : Nat → Rat) : rsumN (n + 1) f = rsumN n f + f n := by
  unfold rsumN
  rw [List.range_succ, List.map_append, rsum_append]
  show _ + (f n + 0) = _
  rw [Rat.add_zero]
theorem rsumN_congr {n : Nat} {f g : Nat → Rat} (h : ∀ i, i < n → f i = g i) : rsumN n f = rsumN n g := by
  induction n with
  | zero => rfl
  | succ n ih => rw [rsumN_succ, rsumN_succ, ih fun i hi => h i (by omega), h n (by omega)]
theorem rsumN_add (n : Nat) (f g : Nat → Rat) : rsumN n (fun i => f i + g i) = rsumN n f + rsumN n g := by
  induction n with
  | zero => exact (Rat.add_zero 0).symm
  | succ n ih => rw [rsumN_succ, rsumN_succ, rsumN_succ, ih]; grind
theorem rsumN_zero {n : Nat} {f : Nat → Rat} (h : ∀ i, i < n → f i = 0) : rsumN n f = 0 := by
  induction n with
  | zero => rfl
  | succ n ih => rw [rsumN_succ, ih fun i hi => h i (by omega), h n (by omega), Rat.add_zero]
theorem rsumN_nn {n : Nat} {f : Nat → Rat} (h : ∀ i, i < n → 0 ≤ f i) : 0 ≤ rsumN n f := by
  induction n with
  | zero => exact Rat.le_refl
  | succ n ih =>
    rw [rsumN_succ]
    have h1 := ih fun i hi => h i (by omega)
    have h2 := h n (by omega)
    grind
theorem rsumN_ge {n : Nat} {f : Nat → Rat} (h : ∀ i, i < n → 0 ≤ f i) {j : Nat} (hj : j < n) : f j ≤ rsumN n f := by
  induction n with
  | zero => omega
  | succ n ih =>
    rw [rsumN_succ]
    have h2 := h n (by omega)
    have h3 := rsumN_nn fun i (hi : i < n) => h i (by omega)
    by_cases e : j = n
    · subst e
      grind
    · have := ih (fun i hi => h i (by omega)) (by omega)
      grind
theorem rsumN_put {n : Nat} {f : Nat → Rat} {j : Nat} {z : Rat} (hj : j < n) : rsumN n (put f j z) = rsumN n f + (z - f j) := by
  induction n with
  | zero => omega
  | succ n ih =>
    rw [rsumN_succ, rsumN_succ]
    by_cases e : j = n
    · subst e
      rw [rsumN_congr (g := f) fun i hi => by unfold put; rw [if_neg (by omega)]]
      unfold put
      rw [if_pos rfl]
      grind
    · rw [ih (by omega)]
      have : put f j z n = f n := by unfold put; rw [if_neg (fun h => e h.symm)]
      rw [this]
      grind
theorem rsumN_put' {n : Nat} {f : Nat → Rat} {j : Nat} {z : Rat} (hj : n ≤ j) : rsumN n (put f j z) = rsumN n f :=
  rsumN_congr fun i hi => by unfold put; rw [if_neg (by omega)]
theorem rsumN_swap (m k : Nat) (T : Nat → Nat → Rat) : rsumN m (fun x => rsumN k (T x)) = rsumN k fun y => rsumN m fun x => T x y := by
  induction m with
  | zero => exact (rsumN_zero fun _ _ => rfl).symm
  | succ m ih =>
    rw [rsumN_succ, ih, ← rsumN_add]
    exact rsumN_congr fun i _ => (rsumN_succ m _).symm
/-! ### bottoms -/
theorem den_sub {a b : Rat} {S : Nat} (h0 : 0 < S) (ha : a.den ∣ S) (hb : b.den ∣ S) : (a - b).den ∣ S := by
  have e : a - b = Rat.divInt (a.num * ((S / a.den : Nat) : Int) + -(b.num * ((S / b.den : Nat) : Int))) (S : Int) := by
    rw [divInt_add_same, tops_one h0 ha, ← Rat.neg_divInt, tops_one h0 hb, Rat.sub_eq_add_neg]
  rw [e]
  exact den_dvd_bot h0
theorem bd_frac {q : Rat} {S : Nat} (q0 : 0 ≤ q) (q1 : q ≤ 1) (h0 : 0 < S) (hS : S ≤ 1000000) (hd : q.den ∣ S) : Bd 21 q := by
  have h1 : q.den ≤ S := Nat.le_of_dvd h0 hd
  have n0 : 0 ≤ q.num := Rat.num_nonneg.mpr q0
  have n1 : q.num ≤ (q.den : Int) := by
    have := (Rat.le_iff q 1).mp q1
    simpa using this
  exact ⟨by omega, by omega⟩
/-! ### filling -/
structure FillM (m k : Nat) (p q : Nat → Rat) (S : Nat) (h g : Nat → Rat) (T : Nat → Nat → Rat) (sp : List (Nat × Nat)) : Prop where
  row : ∀ x, x < m → h x + rsumN k (T x) = p x
  col : ∀ y, y < k → g y + rsumN m (fun x => T x y) = q y
  h0 : ∀ x, x < m → 0 ≤ h x ∧ h x ≤ 1 ∧ (h x).den ∣ S
  g0 : ∀ y, y < k → 0 ≤ g y ∧ g y ≤ 1 ∧ (g y).den ∣ S
  t0 : ∀ x y, x < m → y < k → 0 ≤ T x y ∧ T x y ≤ 1 ∧ (T x y).den ∣ S
  done : ∀ x y, x < m → y < k → (x, y) ∉ sp → h x = 0 ∨ g y = 0
  todo : ∀ xy ∈ sp, T xy.1 xy.2 = 0
  inb : ∀ xy ∈ sp, xy.1 < m ∧ xy.2 < k
  nd : sp.Nodup
def put2 (T : Nat → Nat → Rat) (x y : Nat) (z : Rat) : Nat → Nat → Rat := fun i => if i = x then put (T x) y z else T i
theorem FillM.step {m k : Nat} {p q : Nat → Rat} {S : Nat} {h g : Nat → Rat} {T : Nat → Nat → Rat} {sp : List (Nat × Nat)} (F : FillM m k p q S h g T sp) (hS : 0 < S) {c x y : Nat} (hc : sp[c]? = some (x, y)) {z : Rat} (hz : z = if g y < h x then g y else h x) :
    FillM m k p q S (put h x (h x - z)) (put g y (g y - z)) (put2 T x y z) (sp.eraseIdx c) := by
  have hm := List.mem_of_getElem? hc
  have hx : x < m := (F.inb _ hm).1
  have hy : y < k := (F.inb _ hm).2
  have t : T x y = 0 := F.todo _ hm
  obtain ⟨l1, l2, e1, e2⟩ : ∃ l1 l2, sp = l1 ++ (x, y) :: l2 ∧ sp.eraseIdx c = l1 ++ l2 := by
    have hl := (List.getElem?_eq_some_iff.mp hc).1
    refine ⟨sp.take c, sp.drop (c + 1), ?_, List.eraseIdx_eq_take_drop_succ ..⟩
    have := (List.getElem?_eq_some_iff.mp hc).2
    rw [← this, ← List.drop_eq_getElem_cons hl, List.take_append_drop]
  have nin : (x, y) ∉ sp.eraseIdx c := by
    have nd := F.nd
    rw [e1] at nd
    rw [e2]
    have := List.nodup_append.mp nd
    have h2 := List.nodup_cons.mp this.2.1
    intro hmem
    rcases List.mem_append.mp hmem with h | h
    · exact this.2.2 _ h _ List.mem_cons_self rfl
    · exact h2.1 h
  obtain ⟨hx0, hx1, hxd⟩ := F.h0 x hx
  obtain ⟨gy0, gy1, gyd⟩ := F.g0 y hy
  have z3 : 0 ≤ z ∧ z ≤ h x ∧ z ≤ g y ∧ z.den ∣ S ∧ (h x - z = 0 ∨ g y - z = 0) := by
    subst hz
    split
    · exact ⟨gy0, by grind, by grind, gyd, .inr (by grind)⟩
    · exact ⟨hx0, by grind, by grind, hxd, .inl (by grind)⟩
  obtain ⟨z0, zh, zg, zd, zz⟩ := z3
  refine ⟨fun i hi => ?_, fun j hj => ?_, fun i hi => ?_, fun j hj => ?_, fun i j hi hj => ?_, fun i j hi' hj hn => ?_, fun xy hxy => ?_, fun xy hxy => F.inb xy (List.mem_of_mem_eraseIdx hxy), F.nd.sublist (List.eraseIdx_sublist ..)⟩
  · have := F.row i hi
    by_cases e : i = x
    · subst e
      simp only [put, put2, if_true]
      rw [rsumN_put (f := T i) (z := z) hy, t]
      grind
    · simp only [put, put2, if_neg e]
      exact this
  · have := F.col j hj
    by_cases e : j = y
    · subst e
      have e2 : (fun i => put2 T x j z i j) = put (fun i => T i j) x z := by
        funext i
        by_cases e : i = x
        · subst e
          simp [put2, put]
        · simp [put2, put, e]
      rw [e2, rsumN_put hx]
      simp only [put, if_true]
      rw [t]
      grind
    · have e2 : (fun i => put2 T x y z i j) = fun i => T i j := by
        funext i
        by_cases e' : i = x
        · subst e'
          simp [put2, put, e]
        · simp [put2, e']
      rw [e2]
      simp only [put, if_neg e]
      exact this
  · by_cases e : i = x
    · subst e
      simp only [put, if_true]
      exact ⟨by grind, by grind, den_sub hS hxd zd⟩
    · simp only [put, if_neg e]
      exact F.h0 i hi
  · by_cases e : j = y
    · subst e
      simp only [put, if_true]
      exact ⟨by grind, by grind, den_sub hS gyd zd⟩
    · simp only [put, if_neg e]
      exact F.g0 j hj
  · by_cases e : i = x
    · subst e
      by_cases e' : j = y
      · subst e'
        simp only [put2, put, if_true]
        exact ⟨z0, by grind, zd⟩
      · simp only [put2, put, if_true, if_neg e']
        exact F.t0 i j hi hj
    · simp only [put2, if_neg e]
      exact F.t0 i j hi hj
  · by_cases e : (i, j) = (x, y)
    · cases e
      simp only [put, if_true]
      exact zz
    · have hn' : (i, j) ∉ sp := fun hmem => by
        refine hn ?_
        rw [e1] at hmem
        rw [e2]
        rcases List.mem_append.mp hmem with h | h
        · exact List.mem_append_left _ h
        · rcases List.mem_cons.mp h with h | h
          · exact absurd h e
          · exact List.mem_append_right _ h
      have := F.done i j hi' hj hn'
      simp only [put]
      split <;> split <;> grind
  · have hmem := List.mem_of_mem_eraseIdx hxy
    have t' := F.todo xy hmem
    have ne : xy ≠ (x, y) := fun e => nin (e ▸ hxy)
    obtain ⟨b, d⟩ := xy
    by_cases e : b = x
    · subst e
      have e' : d ≠ y := fun e' => ne (by rw [e'])
      simp only [put2, put, if_true, if_neg e']
      exact t'
    · simp only [put2, if_neg e]
      exact t'
theorem FillM.end_ {m k : Nat} {p q : Nat → Rat} {S : Nat} {h g : Nat → Rat} {T : Nat → Nat → Rat} (F : FillM m k p q S h g T []) (hp : rsumN m p = rsumN k q) : (∀ x, x < m → rsumN k (T x) = p x) ∧ ∀ y, y < k → rsumN m (fun x => T x y) = q y := by
  have e1 : rsumN m h + rsumN m (fun x => rsumN k (T x)) = rsumN m p := by
    rw [← rsumN_add]
    exact rsumN_congr F.row
  have e2 : rsumN k g + rsumN k (fun y => rsumN m fun x => T x y) = rsumN k q := by
    rw [← rsumN_add]
    exact rsumN_congr F.col
  rw [rsumN_swap] at e1
  have e3 : rsumN m h = rsumN k g := by grind
  have hz : (∀ x, x < m → h x = 0) ∧ ∀ y, y < k → g y = 0 := by
    by_cases hh : ∀ x, x < m → h x = 0
    · refine ⟨hh, fun y hy => ?_⟩
      have z := rsumN_zero hh
      have := rsumN_ge (fun i hi => (F.g0 i hi).1) hy
      have := (F.g0 y hy).1
      rw [← e3, z] at *
      grind
    · obtain ⟨x, hx⟩ := Classical.not_forall.mp hh
      obtain ⟨hx, hne⟩ := Classical.not_imp.mp hx
      have gz : ∀ y, y < k → g y = 0 := fun y hy => (F.done x y hx hy (by simp)).resolve_left hne
      refine ⟨fun i hi => ?_, gz⟩
      have z := rsumN_zero gz
      have := rsumN_ge (fun i hi => (F.h0 i hi).1) hi
      have := (F.h0 i hi).1
      rw [e3, z] at *
      grind
  exact ⟨fun x hx => by have := F.row x hx; rw [hz.1 x hx] at this; grind, fun y hy => by have := F.col y hy; rw [hz.2 y hy] at this; grind⟩
end Fb

/-! Part A12: the state of filling a plan, on the heap. -/
namespace Fb
open PySem PySem.Spec PyProof.Rows L2
theorem nodup_inj {α : Type} {l : List α} (nd : l.Nodup) {i j : Nat} {x : α} (hi : l[i]? = some x) (hj : l[j]? = some x) : i = j := by
  obtain ⟨i1, i2⟩ := List.getElem?_eq_some_iff.mp hi
  obtain ⟨j1, j2⟩ := List.getElem?_eq_some_iff.mp hj
  have p := List.pairwise_iff_getElem.mp nd
  rcases Nat.lt_trichotomy i j with h | h | h
  · exact absurd (i2.trans j2.symm) (p i j i1 j1 h)
  · exact h
  · exact absurd (j2.trans i2.symm) (p j i j1 i1 h)
structure FillAt (H0 : Hp) (a : Addr) (f m k : Nat) (ph pw pp ps : Addr) (rs : List Addr) (h g : Nat → Rat) (T : Nat → Nat → Rat) (sp : List (Nat × Nat)) (H : Hp) : Prop where
  same : Same (hid a H0) (hid a H)
  well : WellAt H a f
  new : ∀ p ∈ ph :: pw :: pp :: ps :: rs, H0 p = none ∧ p ≠ a
  dis : (ph :: pw :: pp :: ps :: rs).Nodup
  have_ : VecAt H ph m h
  want : VecAt H pw k g
  tab : H pp = some (.lst (rs.map V.ref))
  rlen : rs.length = m
  rows : ∀ (x : Nat) r, rs[x]? = some r → VecAt H r k (T x)
  spots : ∃ sv, H ps = some (.lst sv) ∧ AllAre (fun v (xy : Nat × Nat) => IsTup2 H v (xy.1 : Int) (xy.2 : Int)) sv sp
section
variable {H0 : Hp} {a : Addr} {f f' m k : Nat} {ph pw pp ps : Addr} {rs : List Addr} {h g : Nat → Rat} {T : Nat → Nat → Rat} {sp : List (Nat × Nat)} {H H' : Hp}
/-- tuples stay and the lists of filling stay -/
theorem FillAt.keep (F : FillAt H0 a f m k ph pw pp ps rs h g T sp H) (s : Same (hid a H) (hid a H')) (w : WellAt H' a f') : FillAt H0 a f' m k ph pw pp ps rs h g T sp H' := by
  have t := TS.well F.well s
  have e : ∀ p ∈ ph :: pw :: pp :: ps :: rs, ∀ o, H p = some o → H' p = some o := fun p hp o ho => by
    have := s p o (by rw [hid_ne (F.new p hp).2]; exact ho)
    rwa [hid_ne (F.new p hp).2] at this
  have v : ∀ p ∈ ph :: pw :: pp :: ps :: rs, ∀ n d, VecAt H p n d → VecAt H' p n d := fun p hp n d hv => by
    obtain ⟨vs, ev, l, r⟩ := hv
    exact ⟨vs, e p hp _ ev, l, fun i v hv => (r i v hv).ts t⟩
  refine ⟨F.same.trans s, w, F.new, F.dis, v _ (by simp) _ _ F.have_, v _ (by simp) _ _ F.want, e _ (by simp) _ F.tab, F.rlen, fun x r hr => v r ?_ _ _ (F.rows x r hr), ?_⟩
  · have := List.mem_of_getElem? hr
    simp [this]
  · obtain ⟨sv, es, as⟩ := F.spots
    exact ⟨sv, e _ (by simp) _ es, as.imp fun _ _ r => r.ts t⟩
/-- one of the lists of filling is set -/
theorem FillAt.upd_ (F : FillAt H0 a f m k ph pw pp ps rs h g T sp H) {p : Addr} {ys : List V} {o : HO} (hp : p ∈ ph :: pw :: pp :: ps :: rs) (e : H p = some (.lst ys)) :
    Same (hid a H0) (hid a (upd H p o)) ∧ WellAt (upd H p o) a f ∧ TS H (upd H p o) := by
  obtain ⟨n0, na⟩ := F.new p hp
  refine ⟨fun b u eb => ?_, F.well.upd na, TS.lst e⟩
  have hb : b ≠ p := fun z => by
    rw [z, hid_ne na, n0] at eb
    cases eb
  rw [hid_updN na, upd_ne hb]
  exact F.same b u eb
theorem FillAt.setH (F : FillAt H0 a f m k ph pw pp ps rs h g T sp H) {vs : List V} {j : Nat} {x : V} {z : Rat} (e : H ph = some (.lst vs)) (hx : IsPr H x z) : FillAt H0 a f m k ph pw pp ps rs (put h j z) g T sp (upd H ph (.lst (vs.set j x))) := by
  obtain ⟨s, w, t⟩ := F.upd_ (o := .lst (vs.set j x)) (by simp) e
  have d := List.nodup_cons.mp F.dis
  have ne : ∀ q ∈ pw :: pp :: ps :: rs, q ≠ ph := fun q hq z => d.1 (z ▸ hq)
  refine ⟨s, w, F.new, F.dis, F.have_.set e hx, F.want.ts t (upd_ne (ne _ (by simp))), by rw [upd_ne (ne _ (by simp))]; exact F.tab, F.rlen, fun x r hr => (F.rows x r hr).ts t (upd_ne (ne _ ?_)), ?_⟩
  · have := List.mem_of_getElem? hr
    simp [this]
  · obtain ⟨sv, es, as⟩ := F.spots
    exact ⟨sv, by rw [upd_ne (ne _ (by simp))]; exact es, as.imp fun _ _ r => r.ts t⟩
theorem FillAt.setW (F : FillAt H0 a f m k ph pw pp ps rs h g T sp H) {vs : List V} {j : Nat} {x : V} {z : Rat} (e : H pw = some (.lst vs)) (hx : IsPr H x z) : FillAt H0 a f m k ph pw pp ps rs h (put g j z) T sp (upd H pw (.lst (vs.set j x))) := by
  obtain ⟨s, w, t⟩ := F.upd_ (o := .lst (vs.set j x)) (by simp) e
  have d0 := List.nodup_cons.mp F.dis
  have d := List.nodup_cons.mp d0.2
  have ne : ∀ q ∈ pp :: ps :: rs, q ≠ pw := fun q hq z => d.1 (z ▸ hq)
  have ne0 : ph ≠ pw := fun z => d0.1 (by simp [z])
  refine ⟨s, w, F.new, F.dis, F.have_.ts t (upd_ne ne0), F.want.set e hx, by rw [upd_ne (ne _ (by simp))]; exact F.tab, F.rlen, fun x r hr => (F.rows x r hr).ts t (upd_ne (ne _ ?_)), ?_⟩
  · have := List.mem_of_getElem? hr
    simp [this]
  · obtain ⟨sv, es, as⟩ := F.spots
    exact ⟨sv, by rw [upd_ne (ne _ (by simp))]; exact es, as.imp fun _ _ r => r.ts t⟩
theorem FillAt.setR (F : FillAt H0 a f m k ph pw pp ps rs h g T sp H) {r : Addr} {vs : List V} {x y : Nat} {v : V} {z : Rat} (hr : rs[x]? = some r) (e : H r = some (.lst vs)) (hx : IsPr H v z) : FillAt H0 a f m k ph pw pp ps rs h g (put2 T x y z) sp (upd H r (.lst (vs.set y v))) := by
  have hm := List.mem_of_getElem? hr
  obtain ⟨s, w, t⟩ := F.upd_ (o := .lst (vs.set y v)) (by simp [hm]) e
  have d := F.dis
  simp only [List.nodup_cons, List.mem_cons, not_or] at d
  have n1 : ph ≠ r := fun z => d.1.2.2.2 (z ▸ hm)
  have n2 : pw ≠ r := fun z => d.2.1.2.2 (z ▸ hm)
  have n3 : pp ≠ r := fun z => d.2.2.1.2 (z ▸ hm)
  have n4 : ps ≠ r := fun z => d.2.2.2.1 (z ▸ hm)
  refine ⟨s, w, F.new, F.dis, F.have_.ts t (upd_ne n1), F.want.ts t (upd_ne n2), by rw [upd_ne n3]; exact F.tab, F.rlen, fun x' r' hr' => ?_, ?_⟩
  · by_cases ex : x' = x
    · subst ex
      rw [hr] at hr'
      cases hr'
      have := (F.rows x' r hr).set (j := y) e hx
      simpa [put2] using this
    · have hne : r' ≠ r := fun z => by
        have nd := d.2.2.2.2
        exact ex (nodup_inj nd hr' (z ▸ hr))
      simp only [put2, if_neg ex]
      exact (F.rows x' r' hr').ts t (upd_ne hne)
  · obtain ⟨sv, es, as⟩ := F.spots
    exact ⟨sv, by rw [upd_ne n4]; exact es, as.imp fun _ _ r => r.ts t⟩
theorem AllAre.erase {α : Type} {R : V → α → Prop} {vs : List V} {xs : List α} (h : AllAre R vs xs) (n : Nat) : AllAre R (vs.eraseIdx n) (xs.eraseIdx n) := by
  rw [List.eraseIdx_eq_take_drop_succ, List.eraseIdx_eq_take_drop_succ]
  exact (h.take n).append (h.drop (n + 1))
theorem FillAt.pop (F : FillAt H0 a f m k ph pw pp ps rs h g T sp H) {sv : List V} {j : Nat} (e : H ps = some (.lst sv)) : FillAt H0 a f m k ph pw pp ps rs h g T (sp.eraseIdx j) (upd H ps (.lst (sv.eraseIdx j))) := by
  obtain ⟨s, w, t⟩ := F.upd_ (o := .lst (sv.eraseIdx j)) (by simp) e
  have d := F.dis
  simp only [List.nodup_cons, List.mem_cons, not_or] at d
  have n1 : ph ≠ ps := d.1.2.2.1
  have n2 : pw ≠ ps := d.2.1.2.1
  have n3 : pp ≠ ps := d.2.2.1.1
  refine ⟨s, w, F.new, F.dis, F.have_.ts t (upd_ne n1), F.want.ts t (upd_ne n2), by rw [upd_ne n3]; exact F.tab, F.rlen, fun x' r' hr' => (F.rows x' r' hr').ts t (upd_ne fun z => d.2.2.2.1 (z ▸ List.mem_of_getElem? hr')), ?_⟩
  obtain ⟨sv', es, as⟩ := F.spots
  rw [e] at es
  cases es
  exact ⟨_, upd_same, (as.erase j).imp fun _ _ r => r.ts t⟩
end
/-- the plan that is told -/
structure PlanOk (m k : Nat) (p q : Nat → Rat) (T : Nat → Nat → Rat) : Prop where
  row : ∀ x, x < m → rsumN k (T x) = p x
  col : ∀ y, y < k → rsumN m (fun x => T x y) = q y
  t0 : ∀ x y, x < m → y < k → 0 ≤ T x y ∧ Bd 21 (T x y)
  den : ∃ S : Nat, 0 < S ∧ S ≤ 1000000 ∧ ∀ x y, x < m → y < k → T x y ≤ 1 ∧ (T x y).den ∣ S
end Fb

/-! Part A13: comprehensions that make rows; lists and functions. -/
namespace Fb
open PySem PySem.Spec PyProof.Rows L2
theorem pi_listK {X : Cx} {K : PySem.W.Frag} {tg l : Expr} {tl : TE} (hK : X.K = K) (hl : PE X l tl) : PI X tg l (iList K tl) := hK ▸ pi_list hl
theorem VecAt.same {H H' : Hp} {p : Addr} {m : Nat} {h : Nat → Rat} (v : VecAt H p m h) (s : Same H H') : VecAt H' p m h := by
  obtain ⟨vs, ev, l, r⟩ := v
  exact ⟨vs, s _ _ ev, l, fun i v hv => (r i v hv).mono s⟩
theorem lc_rows {K : PySem.W.Frag} {a : Addr} {xs : List V} {g : TG} {te : TE} {vs : List Nat} {σ : L2.St} {H1 : Hp} {D : Addr} {Qd : Hp → Prop} (k : Nat) (f : Nat → Rat)
    (hD : H1 D = none) (hS : SqL K H1 a xs) (hz : xs.length ≤ 1000)
    (hs : ∀ (i : Nat) x H (kk : V → Hp → Prop), xs[i]? = some x → Same H1 H → (∀ r H4, H r = none → Same H H4 → VecAt H4 r k f → kk (.ref r) H4) → g x (wipe σ vs) H fun σ2 H2 => wipe σ2 vs = wipe σ vs ∧ te σ2 H2 kk)
    (hd : ∀ H rs, Same H1 (hid D H) → H D = some (.lst (rs.map V.ref)) → rs.length = xs.length → (D :: rs).Nodup → (∀ r ∈ rs, H1 r = none ∧ VecAt H r k f) → Qd H) :
    ∃ W : Nat → Nat → Hp → Prop, (∃ m, W 0 m (upd H1 D (.lst []))) ∧ ∀ i m H, W i m H →
      ((Itl K a).stop i H ∧ Qd H) ∨ ((Itl K a).go i H ∧ ∃ Nx : Hp → Prop, (∀ H', Nx H' → ∃ m', m' < m ∧ W (i + 1) m' H') ∧ ∀ x H', (Itl K a).yld i H x H' → g x (wipe σ vs) H' fun σ2 H2 => wipe σ2 vs = wipe σ vs ∧ tYes σ2 H2 fun b H3 =>
        if b = true then te σ2 H3 fun y H4 => ∃ acc, H4 D = some (.lst acc) ∧ acc.length < sizeLine ∧ Nx (upd H4 D (.lst (acc ++ [y]))) else Nx H3) := by
  refine lc_list (xs := xs) (fun i H => ∃ rs : List Addr, Same H1 (hid D H) ∧ H D = some (.lst (rs.map V.ref)) ∧ rs.length = i ∧ (D :: rs).Nodup ∧ ∀ r ∈ rs, H1 r = none ∧ VecAt H r k f) ⟨[], ?_, upd_same, rfl, by simp, fun r h => by simp at h⟩ (fun i H _ h => ?_) (fun i x H hx h => ?_) (fun H h => ?_)
  · intro b o e
    rw [hid_ne (ne_of_none e hD), upd_ne (ne_of_none e hD)]
    exact e
  · obtain ⟨rs, s, _⟩ := h
    exact (s.trans hid_same).seq hS
  · obtain ⟨rs, s, e, l, nd, r⟩ := h
    have hi : i < xs.length := (List.getElem?_eq_some_iff.mp hx).1
    refine hs i x H (fun y H4 => ∃ acc, H4 D = some (.lst acc) ∧ acc.length < sizeLine ∧ ∃ rs : List Addr, Same H1 (hid D (upd H4 D (.lst (acc ++ [y])))) ∧ (upd H4 D (.lst (acc ++ [y]))) D = some (.lst (rs.map V.ref)) ∧ rs.length = i + 1 ∧ (D :: rs).Nodup ∧ ∀ r ∈ rs, H1 r = none ∧ VecAt (upd H4 D (.lst (acc ++ [y]))) r k f) hx (s.trans hid_same) fun q H4 nq s4 vq => ?_
    have e4 := s4 _ _ e
    have qD : q ≠ D := fun z => by rw [z, e] at nq; cases nq
    have up : ∀ r', r' ≠ D → VecAt H4 r' k f → VecAt (upd H4 D (.lst (rs.map V.ref ++ [.ref q]))) r' k f := fun r' hr v => v.ts (TS.lst e4) (upd_ne hr)
    refine ⟨_, e4, small1000 (by rw [List.length_map]; omega), rs ++ [q], ?_, by rw [upd_same]; simp, by simp [l], ?_, fun r' hr' => ?_⟩
    · rw [hid_upd]
      exact s.trans (hid_mono s4)
    · have n1 := List.nodup_cons.mp nd
      refine List.nodup_cons.mpr ⟨?_, ?_⟩
      · simp only [List.mem_append, List.mem_singleton, not_or]
        exact ⟨n1.1, fun z => qD z.symm⟩
      · refine List.nodup_append.mpr ⟨n1.2, by simp, fun x hx y hy => ?_⟩
        have : y = q := by simpa using hy
        subst this
        intro z
        obtain ⟨vs', ev, _⟩ := (r x hx).2
        rw [z, nq] at ev
        cases ev
    · rcases List.mem_append.mp hr' with h | h
      · have n1 := List.nodup_cons.mp nd
        exact ⟨(r r' h).1, up r' (fun z => n1.1 (z ▸ h)) ((r r' h).2.same s4)⟩
      · have : r' = q := by simpa using h
        subst this
        refine ⟨?_, up _ qD vq⟩
        cases e' : H1 r' with
        | none => rfl
        | some o =>
          have := hid_same _ _ (s _ _ e')
          rw [nq] at this
          cases this
  · obtain ⟨rs, s, e, l, nd, r⟩ := h
    exact hd H rs s e l nd r
/-- [e for x in range(..)] that only makes -/
theorem lc_allR {lo : Int} {n : Nat} {g : TG} {te : TE} {vs : List Nat} {σ : L2.St} {H1 : Hp} {D : Addr} {Qd : Hp → Prop} (R : Nat → V → Hp → Prop) (mono : ∀ i v H H', Same H H' → R i v H → R i v H')
    (hD : H1 D = none) (hz : n ≤ 1000)
    (hs : ∀ i H (k : V → Hp → Prop), i < n → Same H1 (hid D H) → (∃ ys, H D = some (.lst ys)) → (∀ y H4, Same H H4 → R i y (hid D H4) → k y H4) → g (.int (lo + i)) (wipe σ vs) H fun σ2 H2 => wipe σ2 vs = wipe σ vs ∧ te σ2 H2 k)
    (hd : ∀ H ys, Same H1 (hid D H) → H D = some (.lst ys) → ys.length = n → (∀ i y, ys[i]? = some y → R i y (hid D H)) → Qd H) :
    ∃ W : Nat → Nat → Hp → Prop, (∃ m, W 0 m (upd H1 D (.lst []))) ∧ ∀ i m H, W i m H →
      ((Itr lo n).stop i H ∧ Qd H) ∨ ((Itr lo n).go i H ∧ ∃ Nx : Hp → Prop, (∀ H', Nx H' → ∃ m', m' < m ∧ W (i + 1) m' H') ∧ ∀ x H', (Itr lo n).yld i H x H' → g x (wipe σ vs) H' fun σ2 H2 => wipe σ2 vs = wipe σ vs ∧ tYes σ2 H2 fun b H3 =>
        if b = true then te σ2 H3 fun y H4 => ∃ acc, H4 D = some (.lst acc) ∧ acc.length < sizeLine ∧ Nx (upd H4 D (.lst (acc ++ [y]))) else Nx H3) := by
  refine lc_range (fun i H => ∃ ys, Same H1 (hid D H) ∧ H D = some (.lst ys) ∧ ys.length = i ∧ ∀ j y, ys[j]? = some y → R j y (hid D H)) ⟨[], ?_, upd_same, rfl, fun j y h => by simp at h⟩ (fun i H hi h => ?_) (fun H h => ?_)
  · intro b o e
    rw [hid_ne (ne_of_none e hD), upd_ne (ne_of_none e hD)]
    exact e
  · obtain ⟨ys, s, e, l, r⟩ := h
    refine hs i H (fun y H4 => ∃ acc, H4 D = some (.lst acc) ∧ acc.length < sizeLine ∧ ∃ ys, Same H1 (hid D (upd H4 D (.lst (acc ++ [y])))) ∧ (upd H4 D (.lst (acc ++ [y]))) D = some (.lst ys) ∧ ys.length = i + 1 ∧ ∀ j y', ys[j]? = some y' → R j y' (hid D (upd H4 D (.lst (acc ++ [y]))))) hi s ⟨_, e⟩ fun y H4 s4 ry => ?_
    refine ⟨ys, s4 _ _ e, small1000 (by omega), ys ++ [y], ?_, upd_same, by simp [l], fun j y' h => ?_⟩
    · rw [hid_upd]
      exact s.trans (hid_mono s4)
    · rw [hid_upd]
      by_cases hj : j < ys.length
      · rw [List.getElem?_append_left hj] at h
        exact mono _ _ _ _ (hid_mono s4) (r j y' h)
      · rw [List.getElem?_append_right (by omega)] at h
        have hj2 : j - ys.length = 0 := by
          have := (List.getElem?_eq_some_iff.mp h).1
          simp at this
          omega
        rw [hj2] at h
        simp at h
        subst h
        have : j = i := by omega
        rw [this]
        exact ry
  · obtain ⟨ys, s, e, l, r⟩ := h
    exact hd H ys s e l r
/-! ### lists and functions -/
def at0 (l : List Rat) (i : Nat) : Rat := l.getD i 0
theorem at0_of {l : List Rat} {i : Nat} {z : Rat} (h : l[i]? = some z) : at0 l i = z := by
  unfold at0
  rw [List.getD_eq_getElem?_getD, h]
  rfl
theorem at0_mem {l : List Rat} {i : Nat} (h : i < l.length) : at0 l i ∈ l := by
  rw [at0_of (List.getElem?_eq_getElem h)]
  exact List.getElem_mem h
theorem rsumN_at0 (l : List Rat) : rsumN l.length (at0 l) = rsum l := by
  unfold rsumN
  congr 1
  refine List.ext_getElem (by simp) fun i h1 h2 => ?_
  simp only [List.getElem_map, List.getElem_range]
  exact at0_of (List.getElem?_eq_getElem h2)
theorem IsPrs.vec {H : Hp} {p : Addr} {qs : List Rat} (h : IsPrs H (.ref p) qs) : VecAt H p qs.length (at0 qs) := by
  obtain ⟨p', vs, e, h, a⟩ := h
  cases e
  refine ⟨vs, h, a.1, fun i v hv => ?_⟩
  obtain ⟨z, hz, r⟩ := a.at hv
  rw [at0_of hz]
  exact r
theorem VecAt.prs {H : Hp} {p : Addr} {m : Nat} {f : Nat → Rat} (v : VecAt H p m f) : IsPrs H (.ref p) ((List.range m).map f) := by
  obtain ⟨vs, e, l, r⟩ := v
  refine ⟨p, vs, rfl, e, .of_ix (by simp [l]) fun i y hy => ⟨f i, ?_, r i y hy⟩⟩
  have hi := (List.getElem?_eq_some_iff.mp hy).1
  rw [List.getElem?_map, List.getElem?_range (by omega)]
  rfl
/-- the spots of filling, row by row -/
def spotsTo (k : Nat) : Nat → List (Nat × Nat)
  | 0 => []
  | x + 1 => spotsTo k x ++ (List.range k).map fun y => (x, y)
theorem spotsTo_len (k : Nat) : ∀ m, (spotsTo k m).length = m * k
  | 0 => by simp [spotsTo]
  | m + 1 => by
    rw [spotsTo, List.length_append, spotsTo_len k m, List.length_map, List.length_range, Nat.succ_mul]
theorem spotsTo_mem {k x y : Nat} : ∀ {m : Nat}, (x, y) ∈ spotsTo k m ↔ x < m ∧ y < k
  | 0 => by simp [spotsTo]
  | m + 1 => by
    rw [spotsTo, List.mem_append, spotsTo_mem, List.mem_map]
    simp only [List.mem_range, Prod.mk.injEq]
    constructor
    · rintro (h | ⟨y', h1, h2, h3⟩)
      · omega
      · omega
    · intro h
      by_cases e : x < m
      · exact .inl ⟨e, h.2⟩
      · exact .inr ⟨y, h.2, by omega, rfl⟩
theorem spotsTo_nodup (k : Nat) : ∀ m, (spotsTo k m).Nodup
  | 0 => by simp [spotsTo]
  | m + 1 => by
    rw [spotsTo]
    refine List.nodup_append.mpr ⟨spotsTo_nodup k m, ?_, fun a ha b hb => ?_⟩
    · refine List.pairwise_map.mpr (List.Pairwise.imp (fun h z => h ?_) List.nodup_range)
      simpa using z
    · obtain ⟨x, y⟩ := a
      have h1 := spotsTo_mem.mp ha
      obtain ⟨y', _, rfl⟩ := List.mem_map.mp hb
      intro z
      cases z
      omega
theorem heap_le1 {l : List Rat} (h : HeapOk l) {q : Rat} (hq : q ∈ l) : q ≤ 1 := by
  obtain ⟨i, hi, e⟩ := List.mem_iff_getElem.mp hq
  have := rsumN_ge (n := l.length) (f := at0 l) (fun j hj => h.nn _ (at0_mem hj)) hi
  rw [rsumN_at0, h.one, at0_of (List.getElem?_eq_getElem hi), e] at this
  exact this
theorem FillM.start {pl ql : List Rat} (hp : HeapOk pl) (hq : HeapOk ql) : ∃ S : Nat, 0 < S ∧ S ≤ 1000000 ∧ FillM pl.length ql.length (at0 pl) (at0 ql) S (at0 pl) (at0 ql) (fun _ _ => 0) (spotsTo ql.length pl.length) := by
  obtain ⟨S1, a1, a2, a3⟩ := hp.den
  obtain ⟨S2, b1, b2, b3⟩ := hq.den
  refine ⟨S1 * S2, Nat.mul_pos a1 b1, Nat.mul_le_mul a2 b2, fun x _ => ?_, fun y _ => ?_, fun x hx => ?_, fun y hy => ?_, fun _ _ _ _ => ?_, fun x y hx hy hn => absurd (spotsTo_mem.mpr ⟨hx, hy⟩) hn, fun _ _ => rfl, fun xy h => spotsTo_mem.mp h, spotsTo_nodup _ _⟩
  · rw [rsumN_zero fun _ _ => rfl, Rat.add_zero]
  · rw [rsumN_zero fun _ _ => rfl, Rat.add_zero]
  · have := at0_mem hx
    exact ⟨hp.nn _ this, heap_le1 hp this, Nat.dvd_trans (a3 _ this) (Nat.dvd_mul_right _ _)⟩
  · have := at0_mem hy
    exact ⟨hq.nn _ this, heap_le1 hq this, Nat.dvd_trans (b3 _ this) (Nat.dvd_mul_left _ _)⟩
  · exact ⟨Rat.le_refl, by decide, Nat.one_dvd _⟩
theorem FillAt.ext {H0 : Hp} {a : Addr} {f m k : Nat} {ph pw pp ps : Addr} {rs : List Addr} {h g : Nat → Rat} {T : Nat → Nat → Rat} {sp more : List (Nat × Nat)} {H : Hp} (F : FillAt H0 a f m k ph pw pp ps rs h g T sp H) {sv ys : List V} (e : H ps = some (.lst sv)) (hy : AllAre (fun v (xy : Nat × Nat) => IsTup2 H v (xy.1 : Int) (xy.2 : Int)) ys more) :
    FillAt H0 a f m k ph pw pp ps rs h g T (sp ++ more) (upd H ps (.lst (sv ++ ys))) := by
  obtain ⟨s, w, t⟩ := F.upd_ (o := .lst (sv ++ ys)) (by simp) e
  have d := F.dis
  simp only [List.nodup_cons, List.mem_cons, not_or] at d
  have n1 : ph ≠ ps := d.1.2.2.1
  have n2 : pw ≠ ps := d.2.1.2.1
  have n3 : pp ≠ ps := d.2.2.1.1
  refine ⟨s, w, F.new, F.dis, F.have_.ts t (upd_ne n1), F.want.ts t (upd_ne n2), by rw [upd_ne n3]; exact F.tab, F.rlen, fun x' r' hr' => (F.rows x' r' hr').ts t (upd_ne fun z => d.2.2.2.1 (z ▸ List.mem_of_getElem? hr')), ?_⟩
  obtain ⟨sv', es, as⟩ := F.spots
  rw [e] at es
  cases es
  exact ⟨_, upd_same, (as.append hy).imp fun _ _ r => r.ts t⟩
end Fb

/-! Part A14: filters of lists, suites with one end. -/
namespace Fb
open PySem PySem.Spec PyProof.Rows L2
theorem seq_fin {t u : L2.TS} {D : Ends} {σ : L2.St} {H : Hp} (M : L2.St → Hp → Prop) (h2 : ∀ σ H, M σ H → u D σ H) (h1 : (∀ σ H, M σ H → u D σ H) → t { D with nx := u D } σ H) : tSeq t u D σ H := h1 h2
/-- [e for x in xs if ..]: whether something is left -/
theorem lc_some {K : PySem.W.Frag} {a : Addr} {xs : List V} {g : TG} {tt : TT} {te : TE} {vs : List Nat} {σ : L2.St} {H1 : Hp} {D : Addr} {Qd : Hp → Prop} (t : Nat → Bool)
    (hD : H1 D = none) (hS : SqL K H1 a xs) (hz : xs.length ≤ 1000)
    (hs : ∀ (i : Nat) x H (kt : V → Hp → Prop) (kf : Hp → Prop), xs[i]? = some x → Same H1 H → (t i = true → ∀ y H4, Same H H4 → kt y H4) → (t i = false → ∀ H4, Same H H4 → kf H4) →
      g x (wipe σ vs) H fun σ2 H2 => wipe σ2 vs = wipe σ vs ∧ tt σ2 H2 fun b H3 => if b = true then te σ2 H3 kt else kf H3)
    (hd : ∀ H ys, Same H1 (hid D H) → H D = some (.lst ys) → ys.isEmpty = (List.range xs.length).all (fun i => !t i) → Qd H) :
    ∃ W : Nat → Nat → Hp → Prop, (∃ m, W 0 m (upd H1 D (.lst []))) ∧ ∀ i m H, W i m H →
      ((Itl K a).stop i H ∧ Qd H) ∨ ((Itl K a).go i H ∧ ∃ Nx : Hp → Prop, (∀ H', Nx H' → ∃ m', m' < m ∧ W (i + 1) m' H') ∧ ∀ x H', (Itl K a).yld i H x H' → g x (wipe σ vs) H' fun σ2 H2 => wipe σ2 vs = wipe σ vs ∧ tt σ2 H2 fun b H3 =>
        if b = true then te σ2 H3 fun y H4 => ∃ acc, H4 D = some (.lst acc) ∧ acc.length < sizeLine ∧ Nx (upd H4 D (.lst (acc ++ [y]))) else Nx H3) := by
  have ra : ∀ i, (List.range (i + 1)).all (fun i => !t i) = ((List.range i).all (fun i => !t i) && !t i) := fun i => by
    rw [List.range_succ, List.all_append]
    simp
  refine lc_list (xs := xs) (fun i H => ∃ ys, Same H1 (hid D H) ∧ H D = some (.lst ys) ∧ ys.length ≤ i ∧ ys.isEmpty = (List.range i).all (fun i => !t i)) ⟨[], ?_, upd_same, Nat.zero_le _, rfl⟩ (fun i H _ h => ?_) (fun i x H hx h => ?_) (fun H h => ?_)
  · intro b o e
    rw [hid_ne (ne_of_none e hD), upd_ne (ne_of_none e hD)]
    exact e
  · obtain ⟨ys, s, _⟩ := h
    exact (s.trans hid_same).seq hS
  · obtain ⟨ys, s, e, l, r⟩ := h
    have hi : i < xs.length := (List.getElem?_eq_some_iff.mp hx).1
    refine hs i x H (fun y H4 => ∃ acc, H4 D = some (.lst acc) ∧ acc.length < sizeLine ∧ ∃ ys, Same H1 (hid D (upd H4 D (.lst (acc ++ [y])))) ∧ (upd H4 D (.lst (acc ++ [y]))) D = some (.lst ys) ∧ ys.length ≤ i + 1 ∧ ys.isEmpty = (List.range (i + 1)).all (fun i => !t i)) _ hx (s.trans hid_same) (fun ht y H4 s4 => ?_) (fun ht H4 s4 => ?_)
    · refine ⟨ys, s4 _ _ e, small1000 (by omega), ys ++ [y], ?_, upd_same, by simp; omega, ?_⟩
      · rw [hid_upd]
        exact s.trans (hid_mono s4)
      · rw [ra, ht]
        simp
    · refine ⟨ys, s.trans (hid_mono s4), s4 _ _ e, by omega, ?_⟩
      rw [ra, ht, r]
      simp
  · obtain ⟨ys, s, e, l, r⟩ := h
    exact hd H ys s e r
end Fb

namespace Fb
open PySem PySem.Spec PyProof.Rows L2
def topS (i : Nat) : Stmt := PySem.Challenge.pw_farbetween_k11_plans_judged.main.body.getD i (.Pass ⟨0, 0, 0, 0⟩)
abbrev s_p_written : Stmt := topS 5
theorem sc_p_written : FnScope ["number", "piece", "pieces", "rest"] ["number"] (defScope s_p_written) := ⟨rfl, rfl, rfl, by decide +kernel, rfl, by decide +kernel, by decide +kernel⟩
abbrev s_p_is_whole : Stmt := topS 7
theorem sc_p_is_whole : FnScope ["thing"] ["thing"] (defScope s_p_is_whole) := ⟨rfl, rfl, rfl, by decide +kernel, rfl, by decide +kernel, by decide +kernel⟩
abbrev s_m_Share_init : Stmt := inClass (topS 9) 0
theorem sc_m_Share_init : FnScope ["self", "top", "bottom", "common"] ["self", "top", "bottom"] (defScope s_m_Share_init) := ⟨rfl, rfl, rfl, by decide +kernel, rfl, by decide +kernel, by decide +kernel⟩
abbrev s_m_Share_eq : Stmt := inClass (topS 9) 1
theorem sc_m_Share_eq : FnScope ["self", "other"] ["self", "other"] (defScope s_m_Share_eq) := ⟨rfl, rfl, rfl, by decide +kernel, rfl, by decide +kernel, by decide +kernel⟩
abbrev s_m_Share_str : Stmt := inClass (topS 9) 2
theorem sc_m_Share_str : FnScope ["self"] ["self"] (defScope s_m_Share_str) := ⟨rfl, rfl, rfl, by decide +kernel, rfl, by decide +kernel, by decide +kernel⟩
abbrev s_p_common_part : Stmt := topS 10
theorem sc_p_common_part : FnScope ["one", "other"] ["one", "other"] (defScope s_p_common_part) := ⟨rfl, rfl, rfl, by decide +kernel, rfl, by decide +kernel, by decide +kernel⟩
abbrev s_p_common_multiple : Stmt := topS 11
theorem sc_p_common_multiple : FnScope ["one", "other"] ["one", "other"] (defScope s_p_common_multiple) := ⟨rfl, rfl, rfl, by decide +kernel, rfl, by decide +kernel, by decide +kernel⟩
abbrev s_p_common_bottom : Stmt := topS 12
theorem sc_p_common_bottom : FnScope ["shares", "bottom", "share"] ["shares"] (defScope s_p_common_bottom) := ⟨rfl, rfl, rfl, by decide +kernel, rfl, by decide +kernel, by decide +kernel⟩
abbrev s_p_tops_over : Stmt := topS 13
theorem sc_p_tops_over : FnScope ["bottom", "shares", "share"] ["bottom", "shares"] (defScope s_p_tops_over) := ⟨rfl, rfl, rfl, by decide +kernel, rfl, by decide +kernel, by decide +kernel⟩
abbrev s_p_sum_of : Stmt := topS 14
theorem sc_p_sum_of : FnScope ["shares", "bottom"] ["shares"] (defScope s_p_sum_of) := ⟨rfl, rfl, rfl, by decide +kernel, rfl, by decide +kernel, by decide +kernel⟩
abbrev s_p_are_shares : Stmt := topS 16
theorem sc_p_are_shares : FnScope ["thing", "many", "each"] ["thing", "many"] (defScope s_p_are_shares) := ⟨rfl, rfl, rfl, by decide +kernel, rfl, by decide +kernel, by decide +kernel⟩
abbrev s_p_are_amounts : Stmt := topS 17
theorem sc_p_are_amounts : FnScope ["thing", "many", "share"] ["thing", "many"] (defScope s_p_are_amounts) := ⟨rfl, rfl, rfl, by decide +kernel, rfl, by decide +kernel, by decide +kernel⟩
abbrev s_p_is_table : Stmt := topS 18
theorem sc_p_is_table : FnScope ["thing", "rows", "columns", "row"] ["thing", "rows", "columns"] (defScope s_p_is_table) := ⟨rfl, rfl, rfl, by decide +kernel, rfl, by decide +kernel, by decide +kernel⟩
abbrev s_p_is_plan : Stmt := topS 19
theorem sc_p_is_plan : FnScope ["thing", "first", "second", "rows", "columns", "row", "at"] ["thing", "first", "second"] (defScope s_p_is_plan) := ⟨rfl, rfl, rfl, by decide +kernel, rfl, by decide +kernel, by decide +kernel⟩
abbrev s_l_well : Stmt := topS 21
theorem sc_l_well : FnScope ["_law_cell"] ["_law_cell"] (defScope s_l_well) := ⟨rfl, rfl, rfl, by decide +kernel, rfl, by decide +kernel, by decide +kernel⟩
abbrev s_l_draw : Stmt := topS 22
theorem sc_l_draw : FnScope ["_law_well_here", "_law_many", "_law_digit", "_law_prime", "_law_number"] ["_law_well_here", "_law_many"] (defScope s_l_draw) := ⟨rfl, rfl, rfl, by decide +kernel, rfl, by decide +kernel, by decide +kernel⟩
abbrev s_l_one : Stmt := topS 23
theorem sc_l_one : FnScope ["_law_well_here", "_law_some"] ["_law_well_here", "_law_some"] (defScope s_l_one) := ⟨rfl, rfl, rfl, by decide +kernel, rfl, by decide +kernel, by decide +kernel⟩
abbrev s_l_low : Stmt := topS 24
theorem sc_l_low : FnScope ["_law_top", "_law_bottom", "_law_one_here", "_law_other"] ["_law_top", "_law_bottom"] (defScope s_l_low) := ⟨rfl, rfl, rfl, by decide +kernel, rfl, by decide +kernel, by decide +kernel⟩
abbrev s_l_heap : Stmt := topS 25
theorem sc_l_heap : FnScope ["_law_well_here", "_law_many", "_law_way", "_law_weights", "_law_k", "_law_at", "_law_place", "_law_weight"] ["_law_well_here", "_law_many"] (defScope s_l_heap) := ⟨rfl, rfl, rfl, by decide +kernel, rfl, by decide +kernel, by decide +kernel⟩
abbrev s_l_shares : Stmt := topS 27
theorem sc_l_shares : FnScope ["_law_pairs", "_law_top", "_law_bottom"] ["_law_pairs"] (defScope s_l_shares) := ⟨rfl, rfl, rfl, by decide +kernel, rfl, by decide +kernel, by decide +kernel⟩
abbrev s_l_added : Stmt := topS 29
theorem sc_l_added : FnScope ["_law_one_here", "_law_other"] ["_law_one_here", "_law_other"] (defScope s_l_added) := ⟨rfl, rfl, rfl, by decide +kernel, rfl, by decide +kernel, by decide +kernel⟩
abbrev s_l_total : Stmt := topS 30
theorem sc_l_total : FnScope ["_law_pairs", "_law_found", "_law_pair"] ["_law_pairs"] (defScope s_l_total) := ⟨rfl, rfl, rfl, by decide +kernel, rfl, by decide +kernel, by decide +kernel⟩
abbrev s_l_below : Stmt := topS 32
theorem sc_l_below : FnScope ["_law_one_here", "_law_other"] ["_law_one_here", "_law_other"] (defScope s_l_below) := ⟨rfl, rfl, rfl, by decide +kernel, rfl, by decide +kernel, by decide +kernel⟩
abbrev s_l_filled : Stmt := topS 33
theorem sc_l_filled : FnScope ["_law_well_here", "_law_first", "_law_second", "_law_have", "_law_want", "_law_plan", "_law_spots", "_law_x", "_law_y", "_law_amount", "_law_share"] ["_law_well_here", "_law_first", "_law_second"] (defScope s_l_filled) := ⟨rfl, rfl, rfl, by decide +kernel, rfl, by decide +kernel, by decide +kernel⟩
abbrev s_l_otherwise : Stmt := topS 35
theorem sc_l_otherwise : FnScope ["_law_well_here", "_law_plan", "_law_at", "_law_row", "_law_to", "_law_pick", "_law_other", "_law_one_here"] ["_law_well_here", "_law_plan"] (defScope s_l_otherwise) := ⟨rfl, rfl, rfl, by decide +kernel, rfl, by decide +kernel, by decide +kernel⟩
abbrev s_l_made : Stmt := topS 36
theorem sc_l_made : FnScope ["_law_plan", "_law_row", "_law_one_here"] ["_law_plan"] (defScope s_l_made) := ⟨rfl, rfl, rfl, by decide +kernel, rfl, by decide +kernel, by decide +kernel⟩
abbrev s_l_due : Stmt := topS 37
theorem sc_l_due : FnScope ["_law_plan", "_law_first", "_law_second", "_law_row", "_law_share", "_law_bad", "_law_one_here", "_law_at"] ["_law_plan", "_law_first", "_law_second"] (defScope s_l_due) := ⟨rfl, rfl, rfl, by decide +kernel, rfl, by decide +kernel, by decide +kernel⟩
abbrev s_law : Stmt := topS 38
theorem sc_law : FnScope ["_law_script", "_law_cell", "_law_well_here", "_law_most", "_law_first", "_law_second", "_law_plan", "_law_heaps", "_law_turn", "_law_odd", "_law_k", "_law_found", "_law_strange", "_law_row"] ["_law_script"] (defScope s_law) := ⟨rfl, rfl, rfl, by decide +kernel, rfl, by decide +kernel, by decide +kernel⟩
structure Txt (K : PySem.W.Frag) (mg : Str → Option Value) where
  c_FarError : Addr
  g_FarError : mg "FarError" = some (.ref c_FarError)
  c_NoShare : Addr
  g_NoShare : mg "NoShare" = some (.ref c_NoShare)
  c_Share : Addr
  g_Share : mg "Share" = some (.ref c_Share)
  f_p_written : Addr
  d_p_written : FuncData
  F_p_written : Fun K "written" "written" s_p_written f_p_written d_p_written
  b_p_written : Binds K d_p_written ["number"] []
  g_p_written : mg "written" = some (.ref f_p_written)
  f_p_is_whole : Addr
  d_p_is_whole : FuncData
  F_p_is_whole : Fun K "is_whole" "is_whole" s_p_is_whole f_p_is_whole d_p_is_whole
  b_p_is_whole : Binds K d_p_is_whole ["thing"] []
  g_p_is_whole : mg "is_whole" = some (.ref f_p_is_whole)
  f_m_Share_init : Addr
  d_m_Share_init : FuncData
  F_m_Share_init : FunD K "__init__" "Share.__init__" (defArgs s_m_Share_init) (defBody s_m_Share_init) (defScope s_m_Share_init) [.int 1] [] f_m_Share_init d_m_Share_init
  b_m_Share_init : Binds K d_m_Share_init ["self", "top", "bottom"] []
  e_m_Share_init : ∃ ds, Vals [.int 1] ds ∧ Binds K d_m_Share_init ["self", "top", "bottom"] ds
  f_m_Share_eq : Addr
  d_m_Share_eq : FuncData
  F_m_Share_eq : Fun K "__eq__" "Share.__eq__" s_m_Share_eq f_m_Share_eq d_m_Share_eq
  b_m_Share_eq : Binds K d_m_Share_eq ["self", "other"] []
  f_m_Share_str : Addr
  d_m_Share_str : FuncData
  F_m_Share_str : Fun K "__str__" "Share.__str__" s_m_Share_str f_m_Share_str d_m_Share_str
  b_m_Share_str : Binds K d_m_Share_str ["self"] []
  f_p_common_part : Addr
  d_p_common_part : FuncData
  F_p_common_part : Fun K "common_part" "common_part" s_p_common_part f_p_common_part d_p_common_part
  b_p_common_part : Binds K d_p_common_part ["one", "other"] []
  g_p_common_part : mg "common_part" = some (.ref f_p_common_part)
  f_p_common_multiple : Addr
  d_p_common_multiple : FuncData
  F_p_common_multiple : Fun K "common_multiple" "common_multiple" s_p_common_multiple f_p_common_multiple d_p_common_multiple
  b_p_common_multiple : Binds K d_p_common_multiple ["one", "other"] []
  g_p_common_multiple : mg "common_multiple" = some (.ref f_p_common_multiple)
  f_p_common_bottom : Addr
  d_p_common_bottom : FuncData
  F_p_common_bottom : Fun K "common_bottom" "common_bottom" s_p_common_bottom f_p_common_bottom d_p_common_bottom
  b_p_common_bottom : Binds K d_p_common_bottom ["shares"] []
  g_p_common_bottom : mg "common_bottom" = some (.ref f_p_common_bottom)
  f_p_tops_over : Addr
  d_p_tops_over : FuncData
  F_p_tops_over : Fun K "tops_over" "tops_over" s_p_tops_over f_p_tops_over d_p_tops_over
  b_p_tops_over : Binds K d_p_tops_over ["bottom", "shares"] []
  g_p_tops_over : mg "tops_over" = some (.ref f_p_tops_over)
  f_p_sum_of : Addr
  d_p_sum_of : FuncData
  F_p_sum_of : Fun K "sum_of" "sum_of" s_p_sum_of f_p_sum_of d_p_sum_of
  b_p_sum_of : Binds K d_p_sum_of ["shares"] []
  g_p_sum_of : mg "sum_of" = some (.ref f_p_sum_of)
  f_p_are_shares : Addr
  d_p_are_shares : FuncData
  F_p_are_shares : Fun K "are_shares" "are_shares" s_p_are_shares f_p_are_shares d_p_are_shares
  b_p_are_shares : Binds K d_p_are_shares ["thing", "many"] []
  g_p_are_shares : mg "are_shares" = some (.ref f_p_are_shares)
  f_p_are_amounts : Addr
  d_p_are_amounts : FuncData
  F_p_are_amounts : Fun K "are_amounts" "are_amounts" s_p_are_amounts f_p_are_amounts d_p_are_amounts
  b_p_are_amounts : Binds K d_p_are_amounts ["thing", "many"] []
  g_p_are_amounts : mg "are_amounts" = some (.ref f_p_are_amounts)
  f_p_is_table : Addr
  d_p_is_table : FuncData
  F_p_is_table : Fun K "is_table" "is_table" s_p_is_table f_p_is_table d_p_is_table
  b_p_is_table : Binds K d_p_is_table ["thing", "rows", "columns"] []
  g_p_is_table : mg "is_table" = some (.ref f_p_is_table)
  f_p_is_plan : Addr
  d_p_is_plan : FuncData
  F_p_is_plan : Fun K "is_plan" "is_plan" s_p_is_plan f_p_is_plan d_p_is_plan
  b_p_is_plan : Binds K d_p_is_plan ["thing", "first", "second"] []
  g_p_is_plan : mg "is_plan" = some (.ref f_p_is_plan)
  f_l_well : Addr
  d_l_well : FuncData
  F_l_well : Fun K "_law_well" "_law_well" s_l_well f_l_well d_l_well
  b_l_well : Binds K d_l_well ["_law_cell"] []
  g_l_well : mg "_law_well" = some (.ref f_l_well)
  f_l_draw : Addr
  d_l_draw : FuncData
  F_l_draw : Fun K "_law_draw" "_law_draw" s_l_draw f_l_draw d_l_draw
  b_l_draw : Binds K d_l_draw ["_law_well_here", "_law_many"] []
  g_l_draw : mg "_law_draw" = some (.ref f_l_draw)
  f_l_one : Addr
  d_l_one : FuncData
  F_l_one : Fun K "_law_one" "_law_one" s_l_one f_l_one d_l_one
  b_l_one : Binds K d_l_one ["_law_well_here", "_law_some"] []
  g_l_one : mg "_law_one" = some (.ref f_l_one)
  f_l_low : Addr
  d_l_low : FuncData
  F_l_low : Fun K "_law_low" "_law_low" s_l_low f_l_low d_l_low
  b_l_low : Binds K d_l_low ["_law_top", "_law_bottom"] []
  g_l_low : mg "_law_low" = some (.ref f_l_low)
  f_l_heap : Addr
  d_l_heap : FuncData
  F_l_heap : Fun K "_law_heap" "_law_heap" s_l_heap f_l_heap d_l_heap
  b_l_heap : Binds K d_l_heap ["_law_well_here", "_law_many"] []
  g_l_heap : mg "_law_heap" = some (.ref f_l_heap)
  f_l_shares : Addr
  d_l_shares : FuncData
  F_l_shares : Fun K "_law_shares" "_law_shares" s_l_shares f_l_shares d_l_shares
  b_l_shares : Binds K d_l_shares ["_law_pairs"] []
  g_l_shares : mg "_law_shares" = some (.ref f_l_shares)
  f_l_added : Addr
  d_l_added : FuncData
  F_l_added : Fun K "_law_added" "_law_added" s_l_added f_l_added d_l_added
  b_l_added : Binds K d_l_added ["_law_one_here", "_law_other"] []
  g_l_added : mg "_law_added" = some (.ref f_l_added)
  f_l_total : Addr
  d_l_total : FuncData
  F_l_total : Fun K "_law_total" "_law_total" s_l_total f_l_total d_l_total
  b_l_total : Binds K d_l_total ["_law_pairs"] []
  g_l_total : mg "_law_total" = some (.ref f_l_total)
  f_l_below : Addr
  d_l_below : FuncData
  F_l_below : Fun K "_law_below" "_law_below" s_l_below f_l_below d_l_below
  b_l_below : Binds K d_l_below ["_law_one_here", "_law_other"] []
  g_l_below : mg "_law_below" = some (.ref f_l_below)
  f_l_filled : Addr
  d_l_filled : FuncData
  F_l_filled : Fun K "_law_filled" "_law_filled" s_l_filled f_l_filled d_l_filled
  b_l_filled : Binds K d_l_filled ["_law_well_here", "_law_first", "_law_second"] []
  g_l_filled : mg "_law_filled" = some (.ref f_l_filled)
  f_l_otherwise : Addr
  d_l_otherwise : FuncData
  F_l_otherwise : Fun K "_law_otherwise" "_law_otherwise" s_l_otherwise f_l_otherwise d_l_otherwise
  b_l_otherwise : Binds K d_l_otherwise ["_law_well_here", "_law_plan"] []
  g_l_otherwise : mg "_law_otherwise" = some (.ref f_l_otherwise)
  f_l_made : Addr
  d_l_made : FuncData
  F_l_made : Fun K "_law_made" "_law_made" s_l_made f_l_made d_l_made
  b_l_made : Binds K d_l_made ["_law_plan"] []
  g_l_made : mg "_law_made" = some (.ref f_l_made)
  f_l_due : Addr
  d_l_due : FuncData
  F_l_due : Fun K "_law_due" "_law_due" s_l_due f_l_due d_l_due
  b_l_due : Binds K d_l_due ["_law_plan", "_law_first", "_law_second"] []
  g_l_due : mg "_law_due" = some (.ref f_l_due)
  f_law : Addr
  d_law : FuncData
  F_law : Fun K "law" "law" s_law f_law d_law
  b_law : Binds K d_law ["_law_script"] []
  g_law : mg "law" = some (.ref f_law)
  cl_Share : Cls K c_Share
  M_Share : Mk K c_Share f_m_Share_init
  ti_Share : TyIns K c_Share
  n_Share_top : NoAttr K c_Share "top"
  n_Share_bottom : NoAttr K c_Share "bottom"
  h_m_Share_eq : Meth K c_Share "__eq__" f_m_Share_eq
  h_m_Share_str : Meth K c_Share "__str__" f_m_Share_str
  ne_Share : PySem.W.findIn K (.ref c_Share) "__ne__" = some (some (.builtin "object.__ne__"))
  nf_Share_int : PySem.W.notFirst K c_Share (.type "int") = true
  nf_Share_str : PySem.W.notFirst K c_Share (.type "str") = true
  nf_Share_NoneType : PySem.W.notFirst K c_Share (.type "NoneType") = true
  nf_Share_list : PySem.W.notFirst K c_Share (.type "list") = true
  nf_Share_tuple : PySem.W.notFirst K c_Share (.type "tuple") = true
  nf_Share_dict : PySem.W.notFirst K c_Share (.type "dict") = true
  nf_Share_bool : PySem.W.notFirst K c_Share (.type "bool") = true
  k_Share : PySem.W.kitOne K (.ref c_Share) (.ref c_Share) = some true
  k_Share_int : PySem.W.kitOne K (.type "int") (.ref c_Share) = some false
  k_Share_str : PySem.W.kitOne K (.type "str") (.ref c_Share) = some false
  k_Share_NoneType : PySem.W.kitOne K (.type "NoneType") (.ref c_Share) = some false
  k_Share_list : PySem.W.kitOne K (.type "list") (.ref c_Share) = some false
  k_Share_tuple : PySem.W.kitOne K (.type "tuple") (.ref c_Share) = some false
  k_Share_dict : PySem.W.kitOne K (.type "dict") (.ref c_Share) = some false
  k_Share_bool : PySem.W.kitOne K (.type "bool") (.ref c_Share) = some false
  u_PIECE_LENGTH : Value
  g_PIECE_LENGTH : mg "PIECE_LENGTH" = some u_PIECE_LENGTH
  r_PIECE_LENGTH : RelV (.int 64) u_PIECE_LENGTH
  z_divmod : mg "divmod" = none
  z_str : mg "str" = none
  z_isinstance : mg "isinstance" = none
  z_int : mg "int" = none
  z_bool : mg "bool" = none
  z_abs : mg "abs" = none
  z_sum : mg "sum" = none
  z_list : mg "list" = none
  z_all : mg "all" = none
  z_len : mg "len" = none
  z_range : mg "range" = none
  z_tuple : mg "tuple" = none
  z_zip : mg "zip" = none
  kit_Share_list : PySem.W.kitOne K (.ref c_Share) (.type "list") = some false
  kit_Share_tuple : PySem.W.kitOne K (.ref c_Share) (.type "tuple") = some false
end Fb

namespace Fb
open PySem PySem.Spec PyProof.Rows L2
section
variable {P : Program} {w : World} {K : PySem.W.Frag} {mg : Str → Option Value} {base : Heap}
/-! ### is_whole, of whole numbers -/
def spWhole : Sp := fun vs H Q _ => ∃ i : Int, vs = [.int i] ∧ Q (.bl true) H
theorem ok_p_is_whole (T : Txt K mg) : FnOk P w K mg base CX0 1 T.f_p_is_whole T.d_p_is_whole ["thing"] spWhole := by
  refine T.F_p_is_whole.ok sc_p_is_whole (fun vs H Q E h => ?_) (fun cdv A outer s H vs Q E hr h => ?_)
  · obtain ⟨i, rfl, _⟩ := h
    rfl
  · obtain ⟨i, rfl, q⟩ := h
    refine ⟨_, (pss_one (ps_ret (pe_and (pe_callB call_isi (by rfl) T.z_isinstance (by decide +kernel) (pa_cons (pv 0) (pa_cons (pe_bltn (v := .ty "int") (by rfl) T.z_int (by decide +kernel) rfl) pa_nil))) (pe_one (pe_not (pe_callB call_isi (by rfl) T.z_isinstance (by decide +kernel) (pa_cons (pv 0) (pa_cons (pe_bltn (v := .ty "bool") (by rfl) T.z_bool (by decide +kernel) rfl) pa_nil)))))))), ?_⟩
    refine ⟨_, rfl, _, _, _, _, true, rfl, .ty _, .base (.int i), kit_ty (by decide +kernel), true, rfl, ?_⟩
    refine iteT ?_
    exact ⟨_, rfl, _, _, _, _, false, rfl, .ty _, .base (.int i), kit_ty (by decide +kernel), false, rfl, q⟩
/-! ### common_part -/
def spGcd : Sp := fun vs H Q _ => ∃ a b : Int, vs = [.int a, .int b] ∧ Q (.int (Int.gcd a b : Int)) H
theorem ok_p_common_part (T : Txt K mg) : FnOk P w K mg base CX0 1 T.f_p_common_part T.d_p_common_part ["one", "other"] spGcd := by
  refine T.F_p_common_part.ok sc_p_common_part (fun vs H Q E h => ?_) (fun cdv A outer s H vs Q E hr h => ?_)
  · obtain ⟨a, b, rfl, _⟩ := h
    rfl
  · obtain ⟨a, b, rfl, q⟩ := h
    refine ⟨_, (pss_cons (ps_while PassesOwn.never (pt_cmpR op_ne (pv 1) pe_int (nomark _))
  (pss_one (ps_par (i := 0) (j := 1) (by rfl) sc_p_common_part.nd rfl rfl (by decide) rfl rfl (pa_cons (pv 1) (pa_cons (pe_op op_modN (pv 0) (pv 1)) pa_nil)) (by rfl))))
 (pss_one (ps_ret (pe_callB call_abs (by rfl) T.z_abs (by decide +kernel) (pa_cons (pv 0) pa_nil))))), ?_⟩
    refine ⟨fun m σ H' => ∃ x y : Int, σ = [some (.int x), some (.int y)] ∧ m = y.natAbs ∧ Int.gcd x y = Int.gcd a b ∧ H' = H, ⟨_, a, b, rfl, rfl, rfl, rfl⟩, fun m σ H' hW => ?_⟩
    obtain ⟨x, y, rfl, rfl, hg, rfl⟩ := hW
    refine ⟨_, rfl, rfl, _, rfl, ?_⟩
    by_cases hy : y = 0
    · subst hy
      refine iteF ?_
      refine ⟨_, rfl, x, rfl, ?_⟩
      have e : (if x < 0 then -x else x) = (Int.gcd a b : Int) := by
        rw [← hg, Int.gcd_zero_right]
        split <;> omega
      rw [e]
      exact q
    · have ne : (!decide (V.int y = V.int 0)) = true := by
        rw [decide_eq_false (fun z => hy (V.int.inj z))]
        rfl
      rw [ne]
      refine iteT ?_
      refine ⟨fun σ' H'' => σ' = [some (.int y), some (.int (x.fmod y))] ∧ H'' = H', fun σ' H'' h => ?_, ?_⟩
      · obtain ⟨rfl, rfl⟩ := h
        exact ⟨_, fmod_lt x y hy, y, _, rfl, rfl, by rw [gcd_step, hg], rfl⟩
      · exact ⟨_, rfl, _, rfl, _, rfl, _, _, rfl, rfl, hy, _, _, rfl, rfl, rfl⟩
theorem log2_mono {a b : Nat} (h : a ≤ b) : a.log2 ≤ b.log2 := by
  by_cases ha : a = 0
  · subst ha
    simp
  · have hb : b ≠ 0 := by omega
    rw [Nat.le_log2 hb]
    exact Nat.le_trans (Nat.log2_self_le ha) h
theorem nat_abs {n m : Nat} (h : n < m) : (n : Int).natAbs < m := h
end

end Fb

namespace Fb
open PySem PySem.Spec PyProof.Rows L2
section
variable {P : Program} {w : World} {K : PySem.W.Frag} {mg : Str → Option Value} {base : Heap}
/-! ### Share(top, bottom) -/
def spShare (C : Addr) : Sp := fun vs H Q _ => ∃ (p dx : Addr) (t b : Int), vs = [.ref p, .int t, .int b] ∧ H p = some (.ins C dx []) ∧ b ≠ 0 ∧ b.natAbs.log2 < 9000 ∧
  ∀ H', (∀ a o, H a = some o → a ≠ p → H' a = some o) → H' p = some (.ins C dx (flds (Rat.divInt t b))) → Q .non H'
theorem ok_m_Share_init (T : Txt K mg) : FnOk P w K mg base CX0 2 T.f_m_Share_init T.d_m_Share_init ["self", "top", "bottom"] (spShare T.c_Share) := by
  refine T.F_m_Share_init.ok sc_m_Share_init (fun vs H Q E h => ?_) (fun cdv A outer s H vs Q E hr h => ?_)
  · obtain ⟨p, dx, t, b, rfl, _⟩ := h
    rfl
  · obtain ⟨p, dx, t, b, rfl, hp, hb, hl, q⟩ := h
    refine ⟨_, PSs.nox (pss_cons (ps_if (PW.pt (pw_or (pt_not (pt_val (pe_call (ok_p_is_whole T) (hr.mono (by decide)) (by rfl) T.g_p_is_whole T.F_p_is_whole.kp T.b_p_is_whole .nil pass0 (pa_cons (pv 1) pa_nil)))) (pw_or (pt_not (pt_val (pe_call (ok_p_is_whole T) (hr.mono (by decide)) (by rfl) T.g_p_is_whole T.F_p_is_whole.kp T.b_p_is_whole .nil pass0 (pa_cons (pv 2) pa_nil)))) (pw_or1 (pt_cmpR op_eq (pv 2) pe_int (nomark _))))))
  (pss_one ps_never)
  pss_nil)
 (pss_cons (ps_set (i := 3) sc_m_Share_init.nd rfl (.inl rfl) (pe_call (ok_p_common_part T) (hr.mono (by decide)) (by rfl) T.g_p_common_part T.F_p_common_part.kp T.b_p_common_part .nil pass0 (pa_cons (pv 1) (pa_cons (pv 2) pa_nil))))
 (pss_cons (ps_if (pt_cmpR op_lt (pv 2) pe_int (nomark _))
  (pss_one (ps_set (i := 3) sc_m_Share_init.nd rfl (.inl rfl) (pe_un un_neg (pv 3))))
  pss_nil)
 (pss_cons (ps_fld (pv 0) (pe_op op_fdivZ (pv 1) (pv 3)) rfl)
 (pss_one (ps_fld (pv 0) (pe_op op_fdivZ (pv 2) (pv 3)) rfl)))))), ?_⟩
    -- the test is false
    refine ⟨_, rfl, t, rfl, true, rfl, ?_⟩
    refine iteF ?_
    refine ⟨_, rfl, b, rfl, true, rfl, ?_⟩
    refine iteF ?_
    refine ⟨_, rfl, rfl, _, rfl, ?_⟩
    rw [decide_eq_false (fun z => hb (V.int.inj z))]
    refine iteF ?_
    -- common
    refine ⟨_, rfl, _, rfl, t, b, rfl, ?_⟩
    have fin : ∀ (c : Int), c = cut t b → (sFld K (tVar 0) (tOp (rI CDivZ fun i j => .int (i.fdiv j)) (tVar 1) (tVar 3)) "top") { nx := (sFld K (tVar 0) (tOp (rI CDivZ fun i j => .int (i.fdiv j)) (tVar 2) (tVar 3)) "bottom") { nx := fun _ H' => Q .non H', rt := Q }, rt := Q } [some (.ref p), some (.int t), some (.int b), some (.int c)] H := by
      intro c hc
      subst hc
      have hd : ∀ i, CDivZ i (cut t b) := fun _ => ⟨cut_ne hb, Nat.lt_of_le_of_lt (log2_mono (cut_le hb)) hl⟩
      refine ⟨_, rfl, _, rfl, _, _, rfl, rfl, hd _, _, rfl, p, T.c_Share, dx, [], rfl, hp, T.cl_Share, T.n_Share_top, (by show 0 < 1000; decide), ?_⟩
      refine ⟨_, rfl, _, rfl, _, _, rfl, rfl, hd _, _, rfl, p, T.c_Share, dx, _, rfl, upd_same, T.cl_Share, T.n_Share_bottom, (by show 1 < 1000; decide), ?_⟩
      refine q _ (fun a o e ne => ?_) ?_
      · rw [upd_ne ne, upd_ne ne]
        exact e
      · dsimp only
        rw [upd_same, cut_top hb, cut_bottom hb]
        rfl
    refine ⟨_, rfl, _, _, rfl, rfl, _, rfl, ite2 (fun h => ?_) (fun h => ?_)⟩
    · have h' : b < 0 := of_decide_eq_true h
      refine ⟨_, rfl, _, rfl, ?_⟩
      exact fin _ (by unfold cut; rw [if_pos h'])
    · have h' : ¬ b < 0 := fun z => h (decide_eq_true z)
      exact fin _ (by unfold cut; rw [if_neg h'])
/-- Share(t, b) as its caller sees it -/
theorem mk_share {C : Addr} {H : Hp} {t b : Int} {Q : Addr → Hp → Prop} {E : XK} (hb : b ≠ 0) (hl : b.natAbs.log2 < 9000) (q : ∀ H' r, Same H H' → IsShare C H' (.ref r) (Rat.divInt t b) → Q r H') :
    ∀ x dx, H x = none → H dx = none → dx ≠ x → spShare C (.ref x :: ([.int t, .int b] ++ [])) (upd (upd H dx (.own x)) x (.ins C dx [])) (fun v H2 => v = .non ∧ Q x H2) E := by
  intro x dx nx ndx ne
  refine ⟨x, dx, t, b, rfl, upd_same, hb, hl, fun H' k e => ⟨rfl, q H' x (fun a o ea => ?_) ⟨x, dx, rfl, e⟩⟩⟩
  have h1 : a ≠ x := ne_of_none ea nx
  refine k a o ?_ h1
  rw [upd_ne h1, upd_ne (ne_of_none ea ndx)]
  exact ea
end

end Fb

namespace Fb
open PySem PySem.Spec PyProof.Rows L2
section
variable {P : Program} {w : World} {K : PySem.W.Frag} {mg : Str → Option Value} {base : Heap}
/-! ### the class's own == -/
def spEq (K : PySem.W.Frag) (C : Addr) : Sp := fun vs H Q _ => ∃ (v u : V) (x : Rat), vs = [v, u] ∧ IsShare C H v x ∧
  ((∃ y : Rat, IsShare C H u y ∧ Q (.bl (decide (x = y))) H) ∨ ∃ t, TyX K H u t ∧ PySem.W.kitOne K t (.ref C) = some false ∧ Q (.bl false) H)
theorem tyShare (T : Txt K mg) {H : Hp} {p dx : Addr} {fs : List (Str × V)} (h : H p = some (.ins T.c_Share dx fs)) : TyX K H (.ref p) (.ref T.c_Share) :=
  .base (.ins h T.cl_Share T.ti_Share.ha T.ti_Share.hn T.ti_Share.htk T.ti_Share.hm)
theorem ok_m_Share_eq (T : Txt K mg) : FnOk P w K mg base CX0 1 T.f_m_Share_eq T.d_m_Share_eq ["self", "other"] (spEq K T.c_Share) := by
  refine T.F_m_Share_eq.ok sc_m_Share_eq (fun vs H Q E h => ?_) (fun cdv A outer s H vs Q E hr h => ?_)
  · obtain ⟨v, u, x, rfl, _⟩ := h
    rfl
  · obtain ⟨v, u, x, rfl, ⟨p, dx, rfl, hx⟩, h⟩ := h
    refine ⟨_, (pss_one (ps_ret (pe_and (pe_callB call_isi (by rfl) T.z_isinstance (by decide +kernel) (pa_cons (pv 1) (pa_cons (pe_glob (v := .ref T.c_Share) (by rfl) T.g_Share rfl) pa_nil))) (pe_and (pe_cmpR op_eq (pe_fld (pv 0) rfl) (pe_fld (pv 1) rfl) (nomark _)) (pe_one (pe_cmpR op_eq (pe_fld (pv 0) rfl) (pe_fld (pv 1) rfl) (nomark _))))))), ?_⟩
    rcases h with ⟨y, ⟨p', dx', rfl, hy⟩, q⟩ | ⟨t, ty, kt, q⟩
    · refine ⟨_, rfl, _, _, _, _, true, rfl, .own _, tyShare T hy, T.k_Share, true, rfl, iteT ?_⟩
      refine ⟨_, rfl, _, _, _, _, _, rfl, hx, T.cl_Share, T.n_Share_top, flds_top _, _, rfl, _, _, _, _, _, rfl, hy, T.cl_Share, T.n_Share_top, flds_top _, rfl, _, rfl, ?_⟩
      by_cases h1 : x.num = y.num
      · rw [h1, decide_eq_true rfl]
        refine iteT ?_
        refine ⟨_, rfl, _, _, _, _, _, rfl, hx, T.cl_Share, T.n_Share_bottom, flds_bottom _, _, rfl, _, _, _, _, _, rfl, hy, T.cl_Share, T.n_Share_bottom, flds_bottom _, rfl, ?_⟩
        have e : decide (V.int (x.den : Int) = V.int (y.den : Int)) = decide (x = y) := by
          refine decide_eq_decide.mpr ⟨fun z => ?_, fun z => by rw [z]⟩
          have z' : (x.den : Int) = (y.den : Int) := V.int.inj z
          exact Rat.ext h1 (by omega)
        rw [e]
        exact q
      · rw [decide_eq_false (fun z => h1 (V.int.inj z))]
        refine iteF ?_
        have e : decide (x = y) = false := decide_eq_false fun z => h1 (by rw [z])
        rw [e] at q
        exact q
    · exact ⟨_, rfl, _, _, _, _, false, rfl, .own _, ty, kt, false, rfl, iteF q⟩
/-- == or != of two shares -/
theorem eqS (T : Txt K mg) {H : Hp} {v u : V} {x y : Rat} {g : Bool → Bool} {Q : VK} (hx : IsShare T.c_Share H v x) (hy : IsShare T.c_Share H u y) (q : Q (.bl (g (decide (x = y)))) H) : rOwn2 K T.c_Share (spEq K T.c_Share) g v u H Q := by
  obtain ⟨p, dx, rfl, h⟩ := id hx
  obtain ⟨p', dx', rfl, h'⟩ := id hy
  exact ⟨p, dx, _, _, rfl, h, tyShare T h', by simp [PySem.W.notFirst], _, _, x, rfl, hx, .inl ⟨y, hy, _, rfl, q⟩⟩
/-- of a share and what is none -/
theorem eqN (T : Txt K mg) {H : Hp} {v u : V} {x : Rat} {t : Value} {g : Bool → Bool} {Q : VK} (hx : IsShare T.c_Share H v x) (ty : TyX K H u t) (nf : PySem.W.notFirst K T.c_Share t = true) (kt : PySem.W.kitOne K t (.ref T.c_Share) = some false) (q : Q (.bl (g false)) H) :
    rOwn2 K T.c_Share (spEq K T.c_Share) g v u H Q := by
  obtain ⟨p, dx, rfl, h⟩ := id hx
  exact ⟨p, dx, _, _, rfl, h, ty, nf, _, _, x, rfl, hx, .inr ⟨t, ty, kt, _, rfl, q⟩⟩
end

end Fb

namespace Fb
open PySem PySem.Spec PyProof.Rows L2
section
variable {P : Program} {w : World} {K : PySem.W.Frag} {mg : Str → Option Value} {base : Heap}
/-! ### common_multiple -/
def spCm : Sp := fun vs H Q _ => ∃ L d : Nat, vs = [.int L, .int d] ∧ 0 < L ∧ 0 < d ∧ L < 2 ^ 8001 ∧ d < 2 ^ 8001 ∧ Q (.int ((L * (d / Nat.gcd L d) : Nat))) H
theorem ok_p_common_multiple (T : Txt K mg) : FnOk P w K mg base CX0 2 T.f_p_common_multiple T.d_p_common_multiple ["one", "other"] spCm := by
  refine T.F_p_common_multiple.ok sc_p_common_multiple (fun vs H Q E h => ?_) (fun cdv A outer s H vs Q E hr h => ?_)
  · obtain ⟨L, d, rfl, _⟩ := h
    rfl
  · obtain ⟨L, d, rfl, L0, d0, hL, hd, q⟩ := h
    refine ⟨_, (pss_one (ps_ret (pe_op op_mulW (pe_op op_fdivW (pv 0) (pe_call (ok_p_common_part T) (hr.mono (by decide)) (by rfl) T.g_p_common_part T.F_p_common_part.kp T.b_p_common_part .nil pass0 (pa_cons (pv 0) (pa_cons (pv 1) pa_nil)))) (pv 1)))), ?_⟩
    have hg : 0 < Nat.gcd L d := Nat.gcd_pos_of_pos_left _ L0
    have hgle : Nat.gcd L d ≤ L := Nat.le_of_dvd L0 (Nat.gcd_dvd_left _ _)
    refine ⟨_, rfl, _, rfl, _, rfl, _, _, rfl, _, _, rfl, rfl, wide_div (b := 8001) ?_ ?_ (by decide) (by decide), _, rfl, _, _, rfl, rfl, wide_mul (a := 8001) (b := 8001) ?_ (nat_abs hd) (by decide) (by decide) (by decide), ?_⟩
    · show (0 : Int) < ((Int.gcd (L : Nat) (d : Nat) : Nat) : Int)
      rw [Int.gcd_natCast_natCast]
      omega
    · show ((Int.gcd (L : Nat) (d : Nat) : Nat) : Int).natAbs < 2 ^ 8001
      rw [Int.gcd_natCast_natCast]
      exact nat_abs (Nat.lt_of_le_of_lt hgle hL)
    · show (((L : Int) / ((Int.gcd (L : Nat) (d : Nat) : Nat) : Int))).natAbs < 2 ^ 8001
      rw [Int.gcd_natCast_natCast, ← Int.natCast_ediv]
      exact nat_abs (Nat.lt_of_le_of_lt (Nat.div_le_self _ _) hL)
    · have e : ((L : Int) / ((Int.gcd (L : Nat) (d : Nat) : Nat) : Int)) * (d : Int) = ((L * (d / Nat.gcd L d) : Nat) : Int) := by
        rw [Int.gcd_natCast_natCast, ← Int.natCast_ediv, ← Int.natCast_mul]
        congr 1
        rw [Nat.div_mul_right_comm (Nat.gcd_dvd_left L d), ← Nat.mul_div_assoc _ (Nat.gcd_dvd_right L d)]
      dsimp only
      rw [e]
      exact q
/-! ### common_bottom: n bounds each share, N their number; both are told by the caller -/
def spCb (C : Addr) : Sp := fun vs H Q _ => ∃ (v : V) (qs : List Rat), vs = [v] ∧ IsShares C H v qs ∧ lcmOn 1 qs < 2 ^ 8001 ∧ Q (.int (lcmOn 1 qs : Nat)) H
theorem lcmOn_snoc : ∀ (a : List Rat) (L : Nat) (q : Rat), lcmOn L (a ++ [q]) = lcmOn L a * (q.den / Nat.gcd (lcmOn L a) q.den)
  | [], _, _ => rfl
  | x :: r, L, q => lcmOn_snoc r _ q
theorem lcmOn_app : ∀ (a b : List Rat) (L : Nat), lcmOn L (a ++ b) = lcmOn (lcmOn L a) b
  | [], _, _ => rfl
  | x :: r, b, L => lcmOn_app r b _
theorem lcmOn_take (qs : List Rat) (i : Nat) : lcmOn 1 (qs.take i) ≤ lcmOn 1 qs := by
  have e := lcmOn_app (qs.take i) (qs.drop i) 1
  rw [List.take_append_drop] at e
  rw [e]
  exact Nat.le_of_dvd (lcmOn_pos _ _ (lcmOn_pos _ _ (by decide))) (lcmOn_dvd _ _)
theorem Few.all {n N : Nat} {qs : List Rat} (f : Few n N qs) : lcmOn 1 qs < 2 ^ 8001 := by
  have h := lcmOn_lt qs 1 n 1 (fun q hq => (f.bd q hq).den) (by decide)
  refine Nat.lt_of_lt_of_le h (Nat.pow_le_pow_right (by decide) ?_)
  have := Nat.mul_le_mul_left n f.len
  have := f.small
  omega
theorem Few.nle {n N : Nat} {qs : List Rat} (f : Few n N qs) (h : 0 < qs.length) : n ≤ 8000 := by
  have h1 : 1 ≤ N := Nat.le_trans h f.len
  have := Nat.mul_le_mul_left n h1
  have := f.small
  omega
theorem ok_p_common_bottom (T : Txt K mg) : FnOk P w K mg base CX0 3 T.f_p_common_bottom T.d_p_common_bottom ["shares"] (spCb T.c_Share) := by
  refine T.F_p_common_bottom.ok sc_p_common_bottom (fun vs H Q E h => ?_) (fun cdv A outer s H vs Q E hr h => ?_)
  · obtain ⟨v, qs, rfl, _⟩ := h
    rfl
  · obtain ⟨v, qs, rfl, ⟨p, ws, rfl, hp, aa⟩, hL, q⟩ := h
    refine ⟨_, (pss_cons (ps_set (i := 1) sc_p_common_bottom.nd rfl (.inl rfl) pe_int)
 (pss_cons (ps_for PassesOwn.never rfl (pi_list (pv 0)) (pg_name (i := 2) sc_p_common_bottom.nd rfl (.inl rfl))
  (pss_one (ps_set (i := 1) sc_p_common_bottom.nd rfl (.inl rfl) (pe_call (ok_p_common_multiple T) (hr.mono (by decide)) (by rfl) T.g_p_common_multiple T.F_p_common_multiple.kp T.b_p_common_multiple .nil pass0 (pa_cons (pv 1) (pa_cons (pe_fld (pv 2) rfl) pa_nil))))))
 (pss_one (ps_ret (pv 1))))), ?_⟩
    refine ⟨_, rfl, p, rfl, ⟨_, SqL.of hp⟩, for_list (K := K) (a := p) (xs := ws) (fun i σ H' => ∃ y, σ = [some (.ref p), some (.int (lcmOn 1 (qs.take i) : Nat)), y] ∧ H' = H) ⟨none, rfl, rfl⟩ (fun i σ H' _ h => ?_) (fun i x σ H' hi h => ?_) (fun σ H' h => ?_)⟩
    · obtain ⟨y, _, rfl⟩ := h
      exact SqL.of hp
    · obtain ⟨y, rfl, rfl⟩ := h
      obtain ⟨z, hz, px, dx, rfl, hx⟩ := aa.at hi
      have e : qs.take (i + 1) = qs.take i ++ [z] := by
        rw [List.take_add_one, hz]
        rfl
      have hl := Nat.lt_of_le_of_lt (lcmOn_take qs i) hL
      have hl2 := Nat.lt_of_le_of_lt (lcmOn_take qs (i + 1)) hL
      have hd : z.den ≤ lcmOn 1 (qs.take (i + 1)) := Nat.le_of_dvd (lcmOn_pos _ _ (by decide)) (den_dvd_lcm _ _ z (by rw [e]; simp))
      refine ⟨_, rfl, _, rfl, _, _, _, _, _, rfl, hx, T.cl_Share, T.n_Share_bottom, flds_bottom _, lcmOn 1 (qs.take i), z.den, rfl, lcmOn_pos _ _ (by decide), z.den_pos, hl, Nat.lt_of_le_of_lt hd hl2, ?_⟩
      refine ⟨some (.ref px), ?_, rfl⟩
      rw [e, lcmOn_snoc]
      rfl
    · obtain ⟨y, rfl, rfl⟩ := h
      refine ⟨_, rfl, ?_⟩
      rw [aa.1, List.take_length]
      exact q
def spTops (C : Addr) : Sp := fun vs H Q _ => ∃ (v : V) (L : Nat) (qs : List Rat) (n : Nat), vs = [.int L, v] ∧ IsShares C H v qs ∧ (∀ q ∈ qs, Bd n q) ∧ qs.length ≤ 999 ∧ n ≤ 9000 ∧ 0 < n ∧ L < 2 ^ 9000 ∧
  ∀ H' r, H r = none → Same H H' → H' r = some (.lst ((topsOf L qs).map V.int)) → Q (.ref r) H'
theorem ok_p_tops_over (T : Txt K mg) : FnOk P w K mg base CX0 1 T.f_p_tops_over T.d_p_tops_over ["bottom", "shares"] (spTops T.c_Share) := by
  refine T.F_p_tops_over.ok sc_p_tops_over (fun vs H Q E h => ?_) (fun cdv A outer s H vs Q E hr h => ?_)
  · obtain ⟨v, L, qs, n, rfl, _⟩ := h
    rfl
  · obtain ⟨v, L, qs, n, rfl, ⟨p, ws, rfl, hp, aa⟩, bd, hlen, hn, h0, hL, q⟩ := h
    refine ⟨_, (pss_one (ps_ret (pe_lc (own := [("share", 2)]) (g := (gName 2)) (tt := tYes) (by rfl) sc_p_tops_over.nd (pi_list (pv 1)) (blkOk_by (own := [("share", 2)]) (N := ["bottom", "shares", "share"]) (sc := defScope s_p_tops_over) (by decide +kernel)) (fun _ _ _ _ _ => by exact (pg_name (i := 2) sc_p_tops_over.nd rfl (.inl rfl))) (fun _ _ _ _ _ => by exact pts_nil) (fun _ _ _ _ _ => by exact (pe_op op_mulW (pe_fldK (K := K) rfl (pv 2) rfl) (pe_op op_fdivW (pv 0) (pe_fldK (K := K) rfl (pv 2) rfl))))))), ?_⟩
    refine ⟨_, rfl, p, rfl, ⟨_, SqL.of hp⟩, fun D nD => lc_all (K := K) (a := p) (xs := ws) (fun i y _ => ∃ z, qs[i]? = some z ∧ y = .int (z.num * ((L / z.den : Nat) : Int))) (fun _ _ _ _ _ h => h) nD (SqL.of hp) (by rw [aa.1]; omega) (fun i x H2 k hi s2 _ hk => ?_) (fun H2 ys s2 e l r => ?_)⟩
    · obtain ⟨z, hz, px, dx, rfl, hx⟩ := aa.at hi
      have bz := bd z (List.mem_of_getElem? hz)
      have hx2 := hid_same _ _ (s2 _ _ hx)
      refine ⟨rfl, _, rfl, _, _, _, _, _, rfl, hx2, T.cl_Share, T.n_Share_top, flds_top _, _, rfl, _, rfl, _, _, _, _, _, rfl, hx2, T.cl_Share, T.n_Share_bottom, flds_bottom _, _, _, rfl, rfl, wide_div (by have := z.den_pos; omega) (den_abs bz) h0 hn, _, _, rfl, rfl, wide_mul bz.num (b := 9000) ?_ h0 (by decide) (by omega), ?_⟩
      · show ((L : Int) / (z.den : Int)).natAbs < 2 ^ 9000
        rw [← Int.natCast_ediv]
        exact nat_abs (Nat.lt_of_le_of_lt (Nat.div_le_self _ _) hL)
      · refine hk _ _ (Same.refl _) ⟨z, hz, ?_⟩
        dsimp only
        rw [Int.natCast_ediv]
    · have e2 : ys = (topsOf L qs).map V.int := by
        refine List.ext_getElem? fun i => ?_
        by_cases hi : i < ys.length
        · obtain ⟨z, hz, hy⟩ := r i _ (List.getElem?_eq_getElem hi)
          rw [List.getElem?_eq_getElem hi, hy]
          unfold topsOf
          rw [List.map_map, List.getElem?_map, hz]
          rfl
        · rw [List.getElem?_eq_none (by omega), List.getElem?_eq_none]
          unfold topsOf
          rw [List.length_map, List.length_map, ← aa.1]
          omega
      rw [e2] at e
      exact q H2 D nD (s2.trans hid_same) e
end

end Fb

namespace Fb
open PySem PySem.Spec PyProof.Rows L2
section
variable {P : Program} {w : World} {K : PySem.W.Frag} {mg : Str → Option Value} {base : Heap}
def spSum (C : Addr) : Sp := fun vs H Q _ => ∃ (v : V) (qs : List Rat) (n N : Nat), vs = [v] ∧ IsShares C H v qs ∧ Few n N qs ∧ n ≤ 8000 ∧ ∀ H' r, Same H H' → IsShare C H' r (rsum qs) → Q r H'
theorem ok_p_sum_of (T : Txt K mg) : FnOk P w K mg base CX0 4 T.f_p_sum_of T.d_p_sum_of ["shares"] (spSum T.c_Share) := by
  refine T.F_p_sum_of.ok sc_p_sum_of (fun vs H Q E h => ?_) (fun cdv A outer s H vs Q E hr h => ?_)
  · obtain ⟨v, qs, n, N, rfl, _⟩ := h
    rfl
  · obtain ⟨v, qs, n, N, rfl, hv, few, n8, q⟩ := h
    refine ⟨_, (pss_cons (ps_set (i := 1) sc_p_sum_of.nd rfl (.inl rfl) (pe_call (ok_p_common_bottom T) (hr.mono (by decide)) (by rfl) T.g_p_common_bottom T.F_p_common_bottom.kp T.b_p_common_bottom .nil pass0 (pa_cons (pv 0) pa_nil)))
 (pss_one (ps_ret (pe_make T.M_Share (ok_m_Share_init T) (hr.mono (by decide)) (by rfl) T.g_Share T.b_m_Share_init .nil pass0 (pa_cons (pe_callB (cr_sum rfl) (by rfl) T.z_sum (by decide +kernel) (pa_cons (pe_call (ok_p_tops_over T) (hr.mono (by decide)) (by rfl) T.g_p_tops_over T.F_p_tops_over.kp T.b_p_tops_over .nil pass0 (pa_cons (pv 1) (pa_cons (pv 0) pa_nil))) pa_nil)) (pa_cons (pv 1) pa_nil)))))), ?_⟩
    have hL := few.all
    have hP := lcmOn_pos qs 1 (by decide)
    refine ⟨_, rfl, _, qs, rfl, hv, hL, ?_⟩
    refine ⟨_, rfl, _, rfl, _, lcmOn 1 qs, qs, n, rfl, hv, few.bd, Nat.le_trans few.len few.most, by omega, few.pos, Nat.lt_of_lt_of_le hL (Nat.pow_le_pow_right (by decide) (by decide)), fun H1 r _ s1 e1 => ?_⟩
    refine ⟨r, topsOf (lcmOn 1 qs) qs, rfl, SqL.of e1, _, rfl, ?_⟩
    refine mk_share (by omega) (log_of (n := 8001) (by decide) (nat_abs hL) (by decide)) fun H' r' sm hr' => ?_
    rw [tops_sum hP qs fun x hx => den_dvd_lcm qs 1 x hx] at hr'
    exact q H' _ (s1.trans sm) hr'
end

end Fb

namespace Fb
open PySem PySem.Spec PyProof.Rows L2
section
variable {P : Program} {w : World} {K : PySem.W.Frag} {mg : Str → Option Value} {base : Heap}
/-! ### the law's well -/
def spWell : Sp := fun vs H Q _ => ∃ c : Int, vs = [.int c] ∧ ∀ a H', H a = none → Same H (hid a H') → WellAt H' a 1099511627776 → Q (.ref a) H'
theorem ok_l_well (T : Txt K mg) : FnOk P w K mg base CX0 1 T.f_l_well T.d_l_well ["_law_cell"] spWell := by
  refine T.F_l_well.ok sc_l_well (fun vs H Q E h => ?_) (fun cdv A outer s H vs Q E hr h => ?_)
  · obtain ⟨c, rfl, _⟩ := h
    rfl
  · obtain ⟨c, rfl, q⟩ := h
    refine ⟨_, (pss_one (ps_ret (pe_lst (pa_cons (pe_op op_mul (pv 0) (pe_callTy call_int1 (by rfl) T.z_int (by decide +kernel) (pa_cons (pe_cmpR op_ge (pv 0) (pe_op op_pow pe_int pe_int) (nomark _)) pa_nil))) (pa_cons (pe_op op_mod (pv 0) pe_int) (pa_cons pe_int pa_nil)))))), ?_⟩
    refine ⟨_, rfl, _, rfl, _, _, rfl, rfl, ⟨by decide, by decide, by decide⟩, _, _, rfl, rfl, .inr ⟨_, rfl, _, _, rfl, rfl, ?_, _, rfl, _, _, rfl, rfl, (by show (0 : Int) < 2147483647; decide), ?_⟩⟩
    · right
      split <;> decide
    · refine ⟨by show 3 ≤ sizeLine; decide, fun p np => ?_⟩
      refine q p _ np (fun b o e => ?_) ⟨_, _, _, upd_same, Int.emod_nonneg _ (by decide), Int.emod_lt_of_pos _ (by decide), by decide, by decide⟩
      rw [hid_upd, hid_ne (ne_of_none e np)]
      exact e
def spDraw : Sp := fun vs H Q _ => ∃ (a : Addr) (m : Int) (n : Nat), vs = [.ref a, .int m] ∧ WellAt H a (n + 1) ∧ 0 < m ∧ m.natAbs.log2 < 9000 ∧
  ∀ d H', 0 ≤ d → d < m → Same (hid a H) (hid a H') → WellAt H' a n → Q (.int d) H'
theorem ok_l_draw (T : Txt K mg) : FnOk P w K mg base CX0 1 T.f_l_draw T.d_l_draw ["_law_well_here", "_law_many"] spDraw := by
  refine T.F_l_draw.ok sc_l_draw (fun vs H Q E h => ?_) (fun cdv A outer s H vs Q E hr h => ?_)
  · obtain ⟨a, m, n, rfl, _⟩ := h
    rfl
  · obtain ⟨a, m, n, rfl, ⟨w0, w1, w2, hw, b1, b2, b3, b4⟩, m0, ml, q⟩ := h
    refine ⟨_, (pss_cons (ps_if (pt_cmpR op_gt (pe_ix ix_list (pv 0) pe_int (fun _ _ => rfl)) pe_int (nomark _))
  (pss_cons (ps_set (i := 2) sc_l_draw.nd rfl (.inl rfl) (pe_op op_mod (pe_ix ix_list (pv 0) pe_int (fun _ _ => rfl)) (pv 1)))
 (pss_cons (ps_asg (pe_op op_fdivW (pe_ix ix_list (pv 0) pe_int (fun _ _ => rfl)) (pv 1)) (pg_sub (pv 0) pe_int set_list))
 (pss_one (ps_ret (pv 2)))))
  pss_nil)
 (pss_cons (ps_asg (pe_op op_add (pe_ix ix_list (pv 0) pe_int (fun _ _ => rfl)) pe_int) (pg_sub (pv 0) pe_int set_list))
 (pss_cons (ps_set (i := 3) sc_l_draw.nd rfl (.inl rfl) (pe_ix ix_list (pe_lst (pa_cons pe_int (pa_cons pe_int (pa_cons pe_int (pa_cons pe_int (pa_cons pe_int (pa_cons pe_int (pa_cons pe_int pa_nil)))))))) (pe_op op_mod (pe_ix ix_list (pv 0) pe_int (fun _ _ => rfl)) pe_int) (fun _ _ => rfl)))
 (pss_cons (ps_set (i := 4) sc_l_draw.nd rfl (.inl rfl) (pe_op op_mod (pe_op op_pow (pe_op op_add (pe_op op_add (pe_ix ix_list (pv 0) pe_int (fun _ _ => rfl)) (pe_op op_mul pe_int (pe_ix ix_list (pv 0) pe_int (fun _ _ => rfl)))) pe_int) pe_int) (pv 3)))
 (pss_cons (ps_set (i := 4) sc_l_draw.nd rfl (.inl rfl) (pe_op op_mod (pe_op op_mul (pe_op op_add (pv 4) (pe_ix ix_list (pv 0) pe_int (fun _ _ => rfl))) (pe_op op_add (pe_op op_fdiv (pv 4) pe_int) pe_int)) (pv 3)))
 (pss_one (ps_ret (pe_op op_mod (pe_op op_fdiv (pv 4) pe_int) (pv 1))))))))), ?_⟩
    refine ⟨_, rfl, a, _, _, _, rfl, rfl, SqL.of hw, atI_nat (j := 0) rfl, _, _, rfl, rfl, _, rfl, ite2 (fun h => ?_) (fun h => ?_)⟩
    · refine ⟨_, rfl, a, _, _, _, rfl, rfl, SqL.of hw, atI_nat (j := 0) rfl, _, rfl, _, _, rfl, rfl, m0, ?_⟩
      refine ⟨_, rfl, a, _, _, _, rfl, rfl, SqL.of hw, atI_nat (j := 0) rfl, _, rfl, _, _, rfl, rfl, ⟨m0, ml⟩, _, rfl, a, _, _, 0, rfl, rfl, hw, rfl, ?_⟩
      refine ⟨_, rfl, ?_⟩
      refine q _ _ (Int.emod_nonneg _ (by omega)) (Int.emod_lt_of_pos _ m0) ?_ ⟨_, _, _, upd_same, b1, b2, b3, by omega⟩
      rw [hid_upd]
      exact Same.refl _
    · refine ⟨_, rfl, a, _, _, _, rfl, rfl, SqL.of hw, atI_nat (j := 2) rfl, _, _, rfl, rfl, _, rfl, a, _, _, 2, rfl, rfl, hw, rfl, ?_⟩
      have hw2 : (upd H a (.lst [.int w0, .int w1, .int (w2 + 1)])) a = some (.lst [.int w0, .int w1, .int (w2 + 1)]) := upd_same
      refine ⟨by show 7 ≤ sizeLine; decide, fun p np => ?_⟩
      have npa : p ≠ a := fun z => by
        rw [z, upd_same] at np
        cases np
      have hw3 : (upd (upd H a (.lst [.int w0, .int w1, .int (w2 + 1)])) p (.lst [V.int 2147483647, V.int 2147483629, V.int 2147483587, V.int 2147483579, V.int 2147483563, V.int 2147483549, V.int 2147483543])) a = some (.lst [.int w0, .int w1, .int (w2 + 1)]) := by
        rw [upd_ne npa.symm]
        exact upd_same
      obtain ⟨pr, hpr, p0, p1⟩ := primes7 (k := (w2 + 1) % 7) (Int.emod_nonneg _ (by decide)) (Int.emod_lt_of_pos _ (by decide))
      refine ⟨_, rfl, a, _, _, _, rfl, rfl, SqL.of hw3, atI_nat (j := 2) rfl, _, _, rfl, rfl, (by show (0 : Int) < 7; decide), p, _, _, _, rfl, rfl, sqL_new, hpr, ?_⟩
      refine ⟨_, rfl, a, _, _, _, rfl, rfl, SqL.of hw3, atI_nat (j := 1) rfl, _, rfl, a, _, _, _, rfl, rfl, SqL.of hw3, atI_nat (j := 2) rfl, _, _, rfl, rfl, .inl ⟨by decide, by decide⟩, _, _, rfl, rfl, _, _, rfl, rfl, _, _, rfl, rfl, ?_, _, rfl, _, _, rfl, rfl, p0, ?_⟩
      · exact pow_small (by omega) (by omega)
      · generalize hx : (w1 + 7919 * (w2 + 1) + 1) ^ (5 : Int).toNat % pr = x
        have x0 : 0 ≤ x := by
          rw [← hx]
          exact Int.emod_nonneg _ (by omega)
        have x1 : x < pr := by
          rw [← hx]
          exact Int.emod_lt_of_pos _ p0
        refine ⟨_, rfl, _, rfl, a, _, _, _, rfl, rfl, SqL.of hw3, atI_nat (j := 2) rfl, _, _, rfl, rfl, _, rfl, _, _, rfl, rfl, ⟨by decide, by decide⟩, _, _, rfl, rfl, _, _, rfl, rfl, .inl ⟨by omega, by omega⟩, _, rfl, _, _, rfl, rfl, p0, ?_⟩
        refine ⟨_, rfl, _, _, rfl, rfl, ⟨by decide, by decide⟩, _, rfl, _, _, rfl, rfl, m0, ?_⟩
        refine q _ _ (Int.emod_nonneg _ (by omega)) (Int.emod_lt_of_pos _ m0) ?_ ⟨_, _, _, hw3, b1, b2, by omega, by omega⟩
        rw [hid_updN npa, hid_upd]
        refine same_upd ?_
        rw [hid_ne npa]
        rw [upd_ne npa] at np
        exact np
def spOne (K : PySem.W.Frag) : Sp := fun vs H Q _ => ∃ (a p : Addr) (xs : List V) (n : Nat), vs = [.ref a, .ref p] ∧ WellAt H a (n + 1) ∧ SqL K (hid a H) p xs ∧ 0 < xs.length ∧ xs.length ≤ 1000 ∧
  ∀ (i : Nat) x H', xs[i]? = some x → Same (hid a H) (hid a H') → WellAt H' a n → Q x H'
theorem log_small {m : Nat} (h : m ≤ 1000) : ((m : Int)).natAbs.log2 < 9000 := by
  have h1 : ((m : Int)).natAbs.log2 ≤ (1000 : Nat).log2 := log2_mono (by omega)
  have h2 : (1000 : Nat).log2 < 9000 := by decide
  omega
theorem ok_l_one (T : Txt K mg) : FnOk P w K mg base CX0 2 T.f_l_one T.d_l_one ["_law_well_here", "_law_some"] (spOne K) := by
  refine T.F_l_one.ok sc_l_one (fun vs H Q E h => ?_) (fun cdv A outer s H vs Q E hr h => ?_)
  · obtain ⟨a, p, xs, n, rfl, _⟩ := h
    rfl
  · obtain ⟨a, p, xs, n, rfl, hw, hS, l0, l1, q⟩ := h
    refine ⟨_, (pss_one (ps_ret (pe_ix ix_list (pv 1) (pe_call (ok_l_draw T) (hr.mono (by decide)) (by rfl) T.g_l_draw T.F_l_draw.kp T.b_l_draw .nil pass0 (pa_cons (pv 0) (pa_cons (pe_callB call_len_seq (by rfl) T.z_len (by decide +kernel) (pa_cons (pv 1) pa_nil)) pa_nil))) (fun _ _ => rfl)))), ?_⟩
    refine ⟨_, rfl, _, rfl, _, rfl, p, xs, rfl, .inl (hid_same.seq hS), a, _, n, rfl, hw, by omega, log_small l1, fun d H' d0 d1 s1 w1 => ?_⟩
    obtain ⟨x, e1, e2⟩ := atI_get d0 d1
    exact ⟨p, xs, d, x, rfl, rfl, (s1.trans hid_same).seq hS, e1, q _ x H' e2 s1 w1⟩
end

end Fb

namespace Fb
open PySem PySem.Spec PyProof.Rows L2
section
variable {P : Program} {w : World} {K : PySem.W.Frag} {mg : Str → Option Value} {base : Heap}
/-! ### the law's own lowest terms -/
def spLow : Sp := fun vs H Q _ => ∃ (t b : Int), vs = [.int t, .int b] ∧ b ≠ 0 ∧ b.natAbs.log2 < 9000 ∧
  ∀ H' r, Same H H' → IsTup2 H' r (Rat.divInt t b).num ((Rat.divInt t b).den : Int) → Q r H'
theorem ok_l_low (T : Txt K mg) : FnOk P w K mg base CX0 1 T.f_l_low T.d_l_low ["_law_top", "_law_bottom"] spLow := by
  refine T.F_l_low.ok sc_l_low (fun vs H Q E h => ?_) (fun cdv A outer s H vs Q E hr h => ?_)
  · obtain ⟨t, b, rfl, _⟩ := h
    rfl
  · obtain ⟨t, b, rfl, hb, hl, q⟩ := h
    refine ⟨_, (pss_cons (ps_par (i := 2) (j := 3) (by rfl) sc_l_low.nd rfl rfl (by decide) rfl rfl (pa_cons (pe_callB call_abs (by rfl) T.z_abs (by decide +kernel) (pa_cons (pv 0) pa_nil)) (pa_cons (pe_callB call_abs (by rfl) T.z_abs (by decide +kernel) (pa_cons (pv 1) pa_nil)) pa_nil)) (by rfl))
 (pss_cons (ps_while PassesOwn.never (pt_cmpR op_gt (pv 3) pe_int (nomark _))
  (pss_one (ps_par (i := 2) (j := 3) (by rfl) sc_l_low.nd rfl rfl (by decide) rfl rfl (pa_cons (pv 3) (pa_cons (pe_op op_mod (pv 2) (pv 3)) pa_nil)) (by rfl))))
 (pss_cons (ps_if (pt_cmpR op_lt (pv 1) pe_int (nomark _))
  (pss_one (ps_set (i := 2) sc_l_low.nd rfl (.inl rfl) (pe_op op_sub pe_int (pv 2))))
  pss_nil)
 (pss_one (ps_ret (pe_tup (pa_cons (pe_op op_fdivZ (pv 0) (pv 2)) (pa_cons (pe_op op_fdivZ (pv 1) (pv 2)) pa_nil)))))))), ?_⟩
    refine ⟨_, rfl, t, rfl, _, rfl, b, rfl, _, _, rfl, ?_⟩
    refine ⟨fun m σ H' => ∃ x y : Int, σ = [some (.int t), some (.int b), some (.int x), some (.int y)] ∧ m = y.toNat ∧ 0 ≤ x ∧ 0 ≤ y ∧ Int.gcd x y = Int.gcd t b ∧ H' = H, ⟨_, (if t < 0 then -t else t), (if b < 0 then -b else b), rfl, rfl, by split <;> omega, by split <;> omega, ?_, rfl⟩, fun m σ H' hW => ?_⟩
    · split <;> split <;> simp [Int.gcd_neg, Int.neg_gcd]
    · obtain ⟨x, y, rfl, rfl, x0, y0, hg, rfl⟩ := hW
      refine ⟨_, rfl, _, _, rfl, rfl, _, rfl, ite2 (fun h => ?_) (fun h => ?_)⟩
      · have hy : 0 < y := of_decide_eq_true h
        refine ⟨fun σ' H'' => σ' = [some (.int t), some (.int b), some (.int y), some (.int (x % y))] ∧ H'' = H', fun σ' H'' h => ?_, ?_⟩
        · obtain ⟨rfl, rfl⟩ := h
          have e1 := Int.emod_nonneg x (Int.ne_of_gt hy)
          have e2 := Int.emod_lt_of_pos x hy
          refine ⟨_, by omega, y, _, rfl, rfl, y0, e1, ?_, rfl⟩
          rw [← hg, ← gcd_step x y, Int.fmod_eq_emod_of_nonneg x y0]
        · exact ⟨_, rfl, _, rfl, _, rfl, _, _, rfl, rfl, hy, _, _, rfl, rfl, rfl⟩
      · have hy : y = 0 := by
          have : ¬ 0 < y := fun z => h (decide_eq_true z)
          omega
        subst hy
        have ex : x = (Int.gcd t b : Int) := by
          rw [← hg, Int.gcd_zero_right]
          omega
        have hd : ∀ i, CDivZ i (cut t b) := fun _ => ⟨cut_ne hb, Nat.lt_of_le_of_lt (log2_mono (cut_le hb)) hl⟩
        refine ⟨_, rfl, _, _, rfl, rfl, _, rfl, ite2 (fun h2 => ?_) (fun h2 => ?_)⟩
        · have h' : b < 0 := of_decide_eq_true h2
          have ec : 0 - x = cut t b := by
            unfold cut
            rw [if_pos h', ex]
            omega
          refine ⟨_, rfl, _, _, rfl, rfl, ?_⟩
          dsimp only
          rw [ec]
          refine ⟨_, rfl, _, rfl, _, _, rfl, rfl, hd _, _, rfl, _, rfl, _, _, rfl, rfl, hd _, by show 2 ≤ sizeLine; decide, fun p np => ?_⟩
          refine q _ _ (same_upd np) ⟨p, rfl, ?_⟩
          dsimp only
          rw [upd_same, cut_top hb, cut_bottom hb]
        · have h' : ¬ b < 0 := fun z => h2 (decide_eq_true z)
          have ec : x = cut t b := by
            unfold cut
            rw [if_neg h', ex]
          rw [ec]
          refine ⟨_, rfl, _, rfl, _, _, rfl, rfl, hd _, _, rfl, _, rfl, _, _, rfl, rfl, hd _, by show 2 ≤ sizeLine; decide, fun p np => ?_⟩
          refine q _ _ (same_upd np) ⟨p, rfl, ?_⟩
          dsimp only
          rw [upd_same, cut_top hb, cut_bottom hb]
end

end Fb

namespace Fb
open PySem PySem.Spec PyProof.Rows L2
section
variable {P : Program} {w : World} {K : PySem.W.Frag} {mg : Str → Option Value} {base : Heap}
/-! ### the law's own pairs: added, multiplied, compared, summed; shares made of them -/
def spTwo (f : Rat → Rat → Rat) : Sp := fun vs H Q _ => ∃ (v u : V) (a b c d : Int), vs = [v, u] ∧ IsTup2 H v a b ∧ IsTup2 H u c d ∧ a.natAbs < 2 ^ 4000 ∧ b.natAbs < 2 ^ 4000 ∧ c.natAbs < 2 ^ 4000 ∧ d.natAbs < 2 ^ 4000 ∧ b ≠ 0 ∧ d ≠ 0 ∧
  ∀ H' r, Same H H' → IsPr H' r (f (Rat.divInt a b) (Rat.divInt c d)) → Q r H'
theorem spTwo.mk {f : Rat → Rat → Rat} {v u : V} {x y : Rat} {H : Hp} {Q : VK} {E : XK} (hx : IsPr H v x) (hy : IsPr H u y) (bx : Bd 4000 x) (by_ : Bd 4000 y) (q : ∀ H' r, Same H H' → IsPr H' r (f x y) → Q r H') : spTwo f [v, u] H Q E :=
  ⟨v, u, _, _, _, _, rfl, hx, hy, bx.num, den_abs bx, by_.num, den_abs by_, den_ne _, den_ne _, fun H' r s h => q H' r s (by rw [divInt_self, divInt_self] at h; exact h)⟩
theorem wm4 {x y : Int} (hx : x.natAbs < 2 ^ 4000) (hy : y.natAbs < 2 ^ 4000) : CMulW x y := wide_mul hx hy (by decide) (by decide) (by decide)
theorem ok_l_added (T : Txt K mg) : FnOk P w K mg base CX0 2 T.f_l_added T.d_l_added ["_law_one_here", "_law_other"] (spTwo (· + ·)) := by
  refine T.F_l_added.ok sc_l_added (fun vs H Q E h => ?_) (fun cdv A outer s H vs Q E hr h => ?_)
  · obtain ⟨v, u, a, b, c, d, rfl, _⟩ := h
    rfl
  · obtain ⟨v, u, a, b, c, d, rfl, ⟨p, rfl, hp⟩, ⟨p', rfl, hp'⟩, la, lb, lc, ld, hb, hd, q⟩ := h
    refine ⟨_, (pss_one (ps_ret (pe_call (ok_l_low T) (hr.mono (by decide)) (by rfl) T.g_l_low T.F_l_low.kp T.b_l_low .nil pass0 (pa_cons (pe_op op_add (pe_op op_mulW (pe_ix ix_tup (pv 0) pe_int (fun _ _ => rfl)) (pe_ix ix_tup (pv 1) pe_int (fun _ _ => rfl))) (pe_op op_mulW (pe_ix ix_tup (pv 1) pe_int (fun _ _ => rfl)) (pe_ix ix_tup (pv 0) pe_int (fun _ _ => rfl)))) (pa_cons (pe_op op_mulW (pe_ix ix_tup (pv 0) pe_int (fun _ _ => rfl)) (pe_ix ix_tup (pv 1) pe_int (fun _ _ => rfl))) pa_nil))))), ?_⟩
    refine ⟨_, rfl, p, _, _, _, rfl, rfl, .inl (.inl hp), atI_nat (j := 0) rfl, _, rfl, p', _, _, _, rfl, rfl, .inl (.inl hp'), atI_nat (j := 1) rfl, _, _, rfl, rfl, wm4 la ld,
      _, rfl, p', _, _, _, rfl, rfl, .inl (.inl hp'), atI_nat (j := 0) rfl, _, rfl, p, _, _, _, rfl, rfl, .inl (.inl hp), atI_nat (j := 1) rfl, _, _, rfl, rfl, wm4 lc lb, _, _, rfl, rfl,
      _, rfl, p, _, _, _, rfl, rfl, .inl (.inl hp), atI_nat (j := 1) rfl, _, rfl, p', _, _, _, rfl, rfl, .inl (.inl hp'), atI_nat (j := 1) rfl, _, _, rfl, rfl, wm4 lb ld,
      _, _, rfl, Int.mul_ne_zero hb hd, log_of (by decide) (wide_lt lb ld) (by decide), fun H1 r s1 h1 => q H1 r s1 ?_⟩
    rw [← Rat.divInt_add_divInt a c hb hd] at h1
    exact h1
def spBelow : Sp := fun vs H Q _ => ∃ (v u : V) (x y : Rat), vs = [v, u] ∧ IsPr H v x ∧ IsPr H u y ∧ Bd 4000 x ∧ Bd 4000 y ∧ Q (.bl (decide (x < y))) H
theorem ok_l_below (T : Txt K mg) : FnOk P w K mg base CX0 1 T.f_l_below T.d_l_below ["_law_one_here", "_law_other"] spBelow := by
  refine T.F_l_below.ok sc_l_below (fun vs H Q E h => ?_) (fun cdv A outer s H vs Q E hr h => ?_)
  · obtain ⟨v, u, x, y, rfl, _⟩ := h
    rfl
  · obtain ⟨v, u, x, y, rfl, ⟨p, rfl, hp⟩, ⟨p', rfl, hp'⟩, bx, by_, q⟩ := h
    refine ⟨_, (pss_one (ps_ret (pe_cmpR op_lt (pe_op op_mulW (pe_ix ix_tup (pv 0) pe_int (fun _ _ => rfl)) (pe_ix ix_tup (pv 1) pe_int (fun _ _ => rfl))) (pe_op op_mulW (pe_ix ix_tup (pv 1) pe_int (fun _ _ => rfl)) (pe_ix ix_tup (pv 0) pe_int (fun _ _ => rfl))) (nomark _)))), ?_⟩
    refine ⟨_, rfl, p, _, _, _, rfl, rfl, .inl (.inl hp), atI_nat (j := 0) rfl, _, rfl, p', _, _, _, rfl, rfl, .inl (.inl hp'), atI_nat (j := 1) rfl, _, _, rfl, rfl, wm4 bx.num (den_abs by_),
      _, rfl, p', _, _, _, rfl, rfl, .inl (.inl hp'), atI_nat (j := 0) rfl, _, rfl, p, _, _, _, rfl, rfl, .inl (.inl hp), atI_nat (j := 1) rfl, _, _, rfl, rfl, wm4 by_.num (den_abs bx), _, _, rfl, rfl, ?_⟩
    have e : decide (x.num * (y.den : Int) < y.num * (x.den : Int)) = decide (x < y) := decide_eq_decide.mpr (Rat.lt_iff x y).symm
    dsimp only
    rw [e]
    exact q
def spTotal : Sp := fun vs H Q _ => ∃ (v : V) (qs : List Rat) (n : Nat), vs = [v] ∧ IsPrs H v qs ∧ (∀ q ∈ qs, Bd n q) ∧ (n + 1) * qs.length + 1 ≤ 4000 ∧ n ≤ 4000 ∧ ∀ H' r, Same H H' → IsPr H' r (rsum qs) → Q r H'
theorem ok_l_total (T : Txt K mg) : FnOk P w K mg base CX0 3 T.f_l_total T.d_l_total ["_law_pairs"] spTotal := by
  refine T.F_l_total.ok sc_l_total (fun vs H Q E h => ?_) (fun cdv A outer s H vs Q E hr h => ?_)
  · obtain ⟨v, qs, n, rfl, _⟩ := h
    rfl
  · obtain ⟨v, qs, n, rfl, ⟨p, ws, rfl, hp, aa⟩, bd, hl, hn, q⟩ := h
    refine ⟨_, (pss_cons (ps_set (i := 1) sc_l_total.nd rfl (.inl rfl) (pe_tup (pa_cons pe_int (pa_cons pe_int pa_nil))))
 (pss_cons (ps_for PassesOwn.never rfl (pi_list (pv 0)) (pg_name (i := 2) sc_l_total.nd rfl (.inl rfl))
  (pss_one (ps_set (i := 1) sc_l_total.nd rfl (.inl rfl) (pe_call (ok_l_added T) (hr.mono (by decide)) (by rfl) T.g_l_added T.F_l_added.kp T.b_l_added .nil pass0 (pa_cons (pv 1) (pa_cons (pv 2) pa_nil))))))
 (pss_one (ps_ret (pv 1))))), ?_⟩
    refine ⟨by show 2 ≤ sizeLine; decide, fun p1 n1 => ?_⟩
    have s1 := same_upd (o := .tup [.int 0, .int 1]) n1
    have hp1 := s1 _ _ hp
    refine ⟨_, rfl, p, rfl, ⟨_, SqL.of hp1⟩, for_list (K := K) (a := p) (xs := ws) (fun i σ H' => ∃ f y, σ = [some (.ref p), some f, y] ∧ Same H H' ∧ IsPr H' f (rsum (qs.take i))) ⟨_, _, rfl, s1, p1, rfl, upd_same⟩ (fun i σ H' _ h => ?_) (fun i x σ H' hi h => ?_) (fun σ H' h => ?_)⟩
    · obtain ⟨_, _, _, s', _⟩ := h
      exact SqL.of (s' _ _ hp)
    · obtain ⟨f, y, rfl, s', hf⟩ := h
      obtain ⟨z, hz, hpz⟩ := aa.at hi
      have hz' : z ∈ qs := List.mem_of_getElem? hz
      have bT : Bd 4000 (rsum (qs.take i)) := by
        refine (rsum_bd (n := n) fun z hz => bd z (List.mem_of_mem_take hz)).mono (Nat.le_trans ?_ hl)
        have : (qs.take i).length ≤ qs.length := by rw [List.length_take]; exact Nat.min_le_right _ _
        have := Nat.mul_le_mul_left (n + 1) this
        omega
      refine ⟨_, rfl, _, rfl, spTwo.mk (E := E0) hf (hpz.mono s') bT ((bd z hz').mono hn) fun H2 r s2 h2 => ⟨r, _, rfl, s'.trans s2, ?_⟩⟩
      rw [rsum_take hz]
      exact h2
    · obtain ⟨f, y, rfl, s', hf⟩ := h
      rw [aa.1, List.take_length] at hf
      exact ⟨_, rfl, q H' _ s' hf⟩
/-! ### shares of pairs -/
def spShs (C : Addr) : Sp := fun vs H Q _ => ∃ (v : V) (qs : List Rat), vs = [v] ∧ IsPrs H v qs ∧ (∀ q ∈ qs, Bd 9000 q) ∧ qs.length ≤ 900 ∧ ∀ H' p, H p = none → Same H H' → IsShares C H' (.ref p) qs → Q (.ref p) H'
theorem ok_l_shares (T : Txt K mg) : FnOk P w K mg base CX0 4 T.f_l_shares T.d_l_shares ["_law_pairs"] (spShs T.c_Share) := by
  refine T.F_l_shares.ok sc_l_shares (fun vs H Q E h => ?_) (fun cdv A outer s H vs Q E hr h => ?_)
  · obtain ⟨v, qs, rfl, _⟩ := h
    rfl
  · obtain ⟨v, qs, rfl, ⟨p, ws, rfl, hp, aa⟩, bd, hlen, q⟩ := h
    refine ⟨_, (pss_one (ps_ret (pe_lc (own := [("_law_top", 1), ("_law_bottom", 2)]) (g := (gTup K 2 (gCons (gName 1) (gCons (gName 2) gNil)))) (tt := tYes) (by rfl) sc_l_shares.nd (pi_list (pv 0)) (blkOk_by (own := [("_law_top", 1), ("_law_bottom", 2)]) (N := ["_law_pairs", "_law_top", "_law_bottom"]) (sc := defScope s_l_shares) (by decide +kernel)) (fun _ _ _ _ _ => by exact (pg_tup (by rfl) (pgs_cons (pg_name (i := 1) sc_l_shares.nd rfl (.inl rfl)) (pgs_cons (pg_name (i := 2) sc_l_shares.nd rfl (.inl rfl)) pgs_nil)))) (fun _ _ _ _ _ => by exact pts_nil) (fun _ _ _ _ _ => by exact (pe_make T.M_Share (ok_m_Share_init T) (hr.mono (by decide)) (by rfl) T.g_Share T.b_m_Share_init .nil pass0 (pa_cons (pv 1) (pa_cons (pv 2) pa_nil))))))), ?_⟩
    refine ⟨_, rfl, p, rfl, ⟨_, SqL.of hp⟩, fun D nD => lc_all (K := K) (a := p) (xs := ws) (fun i y G => ∃ z, qs[i]? = some z ∧ IsShare T.c_Share G y z) (fun _ _ _ _ s h => h.elim fun p f => ⟨p, f.1, f.2.mono s⟩) nD (SqL.of hp) (by rw [aa.1]; omega) (fun i x H2 k hi s2 eD hk => ?_) (fun H2 ys s2 e l r => ?_)⟩
    · obtain ⟨z, hz, q7, rfl, h7⟩ := aa.at hi
      have h7 := hid_same _ _ (s2 _ _ h7)
      refine ⟨q7, _, rfl, .inl (.inl h7), rfl, _, _, rfl, _, _, rfl, rfl, rfl, ?_⟩
      refine ⟨_, rfl, _, rfl, ?_⟩
      refine mk_share (den_ne z) (log_of (by decide) (den_abs (bd z (List.mem_of_getElem? hz))) (by decide)) fun H3 r3 s3 h3 => ?_
      rw [divInt_self] at h3
      refine hk _ _ s3 ⟨z, hz, h3.hidL ?_⟩
      obtain ⟨ys', e'⟩ := eD
      exact ⟨ys', s3 _ _ e'⟩
    · refine q H2 D nD (s2.trans hid_same) ⟨D, ys, rfl, e, .of_ix (by rw [l, aa.1]) fun i y hy => ?_⟩
      obtain ⟨z, hz, hi⟩ := r i y hy
      exact ⟨z, hz, hi.mono hid_same⟩
/-! ### tables -/
def IsTbl (R : Hp → V → List Rat → Prop) (H : Hp) (v : V) (qss : List (List Rat)) : Prop := ∃ p vs, v = .ref p ∧ H p = some (.lst vs) ∧ AllAre (R H) vs qss
theorem IsTbl.mono {R : Hp → V → List Rat → Prop} (m : ∀ H H' v qs, Same H H' → R H v qs → R H' v qs) {H H' : Hp} {v : V} {qss : List (List Rat)} (h : IsTbl R H v qss) (s : Same H H') : IsTbl R H' v qss := by
  obtain ⟨p, vs, e, h, a⟩ := h
  exact ⟨p, vs, e, s _ _ h, a.imp fun _ _ r => m _ _ _ _ s r⟩
theorem IsShares.hidN {C : Addr} {H : Hp} {D p : Addr} {qs : List Rat} (hn : p ≠ D) (e : ∃ ys, H D = some (.lst ys)) (h : IsShares C H (.ref p) qs) : IsShares C (Fb.hid D H) (.ref p) qs := by
  obtain ⟨p', vs, e', h, a⟩ := h
  cases e'
  exact ⟨p, vs, rfl, by rw [hid_ne hn]; exact h, a.imp fun _ _ r => r.hidL e⟩
theorem IsPr.hidL {H : Hp} {D : Addr} {v : V} {q : Rat} (e : ∃ ys, H D = some (.lst ys)) (h : IsPr H v q) : IsPr (Fb.hid D H) v q := IsTup2.hidL e h
theorem IsPrs.hidN {H : Hp} {D p : Addr} {qs : List Rat} (hn : p ≠ D) (e : ∃ ys, H D = some (.lst ys)) (h : IsPrs H (.ref p) qs) : IsPrs (Fb.hid D H) (.ref p) qs := by
  obtain ⟨p', vs, e', h, a⟩ := h
  cases e'
  exact ⟨p, vs, rfl, by rw [hid_ne hn]; exact h, a.imp fun _ _ r => r.hidL e⟩
end

end Fb

namespace Fb
open PySem PySem.Spec PyProof.Rows L2
section
variable {P : Program} {w : World} {K : PySem.W.Frag} {mg : Str → Option Value} {base : Heap}
/-! ### the law's heaps -/
def spHeap : Sp := fun vs H Q _ => ∃ (a : Addr) (m : Nat) (n : Nat), vs = [.ref a, .int m] ∧ WellAt H a (n + 40) ∧ 1 ≤ m ∧ m ≤ 12 ∧
  ∀ H' p qs, H p = none → Same (hid a H) (hid a H') → WellAt H' a n → IsPrs (hid a H') (.ref p) qs → qs.length = m → HeapOk qs → Q (.ref p) H'
theorem flat_rep {x : V} : ∀ m : Nat, (List.replicate m [x]).flatten = List.replicate m x
  | 0 => rfl
  | k + 1 => by
    rw [List.replicate_succ, List.flatten_cons, flat_rep k, List.replicate_succ]
    rfl
theorem ok_l_heap (T : Txt K mg) : FnOk P w K mg base CX0 3 T.f_l_heap T.d_l_heap ["_law_well_here", "_law_many"] spHeap := by
  refine T.F_l_heap.ok sc_l_heap (fun vs H Q E h => ?_) (fun cdv A outer s H vs Q E hr h => ?_)
  · obtain ⟨a, m, n, rfl, _⟩ := h
    rfl
  · obtain ⟨a, m, n, rfl, hw, m1, m12, q⟩ := h
    refine ⟨_, (pss_cons (ps_set (i := 2) sc_l_heap.nd rfl (.inl rfl) (pe_call (ok_l_draw T) (hr.mono (by decide)) (by rfl) T.g_l_draw T.F_l_draw.kp T.b_l_draw .nil pass0 (pa_cons (pv 0) (pa_cons pe_int pa_nil))))
 (pss_cons (ps_set (i := 3) sc_l_heap.nd rfl (.inr rfl) (pe_op op_rep (pe_lst (pa_cons pe_int pa_nil)) (pv 1)))
 (pss_cons (ps_for PassesOwn.never rfl (pi_range1 (by rfl) T.z_range (pa_cons (pe_ix ix_list (pe_lst (pa_cons pe_int (pa_cons pe_int (pa_cons pe_int (pa_cons pe_int pa_nil))))) (pv 2) (fun _ _ => rfl)) pa_nil)) (pg_name (i := 4) sc_l_heap.nd rfl (.inl rfl))
  (pss_cons (ps_set (i := 5) sc_l_heap.nd rfl (.inl rfl) (pe_call (ok_l_draw T) (hr.mono (by decide)) (by rfl) T.g_l_draw T.F_l_draw.kp T.b_l_draw .nil pass0 (pa_cons (pv 0) (pa_cons (pv 1) pa_nil))))
 (pss_one (ps_asg (pe_op op_add (pe_op op_add (pe_ix ix_list (pv 3) (pv 5) (fun _ _ => rfl)) pe_int) (pe_call (ok_l_draw T) (hr.mono (by decide)) (by rfl) T.g_l_draw T.F_l_draw.kp T.b_l_draw .nil pass0 (pa_cons (pv 0) (pa_cons pe_int pa_nil)))) (pg_sub (pv 3) (pv 5) set_list)))))
 (pss_cons (ps_if (pt_cmpR op_eq (pv 2) pe_int (nomark _))
  (pss_one (ps_set (i := 3) sc_l_heap.nd rfl (.inr rfl) (pe_lc (own := [("_law_place", 6)]) (g := (gName 6)) (tt := tYes) (by rfl) sc_l_heap.nd (pi_range1 (by rfl) T.z_range (pa_cons (pv 1) pa_nil)) (blkOk_by (own := [("_law_place", 6)]) (N := ["_law_well_here", "_law_many", "_law_way", "_law_weights", "_law_k", "_law_at", "_law_place", "_law_weight"]) (sc := defScope s_l_heap) (by decide +kernel)) (fun _ _ _ _ _ => by exact (pg_name (i := 6) sc_l_heap.nd rfl (.inl rfl))) (fun _ _ _ _ _ => by exact pts_nil) (fun _ _ _ _ _ => by exact (pe_call (ok_l_draw T) (hr.mono (by decide)) (by rfl) T.g_l_draw T.F_l_draw.kp T.b_l_draw .nil pass0 (pa_cons (pv 0) (pa_cons pe_int pa_nil)))))))
  pss_nil)
 (pss_cons (ps_if (pt_cmpR op_eq (pe_callB (cr_sum rfl) (by rfl) T.z_sum (by decide +kernel) (pa_cons (pv 3) pa_nil)) pe_int (nomark _))
  (pss_one (ps_asg pe_int (pg_sub (pv 3) (pe_call (ok_l_draw T) (hr.mono (by decide)) (by rfl) T.g_l_draw T.F_l_draw.kp T.b_l_draw .nil pass0 (pa_cons (pv 0) (pa_cons (pv 1) pa_nil))) set_list)))
  pss_nil)
 (pss_one (ps_ret (pe_lc (own := [("_law_weight", 7)]) (g := (gName 7)) (tt := tYes) (by rfl) sc_l_heap.nd (pi_list (pv 3)) (blkOk_by (own := [("_law_weight", 7)]) (N := ["_law_well_here", "_law_many", "_law_way", "_law_weights", "_law_k", "_law_at", "_law_place", "_law_weight"]) (sc := defScope s_l_heap) (by decide +kernel)) (fun _ _ _ _ _ => by exact (pg_name (i := 7) sc_l_heap.nd rfl (.inl rfl))) (fun _ _ _ _ _ => by exact pts_nil) (fun _ _ _ _ _ => by exact (pe_call (ok_l_low T) (hr.mono (by decide)) (by rfl) T.g_l_low T.F_l_low.kp T.b_l_low .nil pass0 (pa_cons (pv 7) (pa_cons (pe_callB (cr_sumK (K := K) rfl rfl) (by rfl) T.z_sum (by decide +kernel) (pa_cons (pv 3) pa_nil)) pa_nil)))))))))))), ?_⟩
    have lm : ((m : Nat) : Int).natAbs.log2 < 9000 := log_small (by omega)
    refine ⟨_, rfl, a, 4, n + 39, rfl, hw, by decide, log_small (m := 4) (by decide), fun way H1 y0 y4 s1 w1 => ?_⟩
    -- the noughts
    refine ⟨by show 1 ≤ sizeLine; decide, fun p2 n2 => ?_⟩
    obtain ⟨w2, s2⟩ := well_new (o := .lst [.int 0]) w1 n2
    refine ⟨_, rfl, p2, m, _, rfl, rfl, upd_same, by omega, by omega, ?_, fun pw nw => ?_⟩
    · show 1 * ((m : Nat) : Int).toNat ≤ sizeLine
      rw [Int.toNat_natCast, Nat.one_mul]
      exact Nat.le_of_lt (small1000 (by omega))
    have eN : (List.replicate ((m : Nat) : Int).toNat [V.int 0]).flatten = (List.replicate m (0 : Int)).map V.int := by
      rw [Int.toNat_natCast, List.map_replicate]
      exact flat_rep m
    rw [eN]
    obtain ⟨w3, s3⟩ := well_new (o := .lst ((List.replicate m (0 : Int)).map V.int)) w2 nw
    have W0 : WtAt H a m 0 (n + 39) pw (List.replicate m 0) (upd (upd H1 p2 (.lst [.int 0])) pw (.lst ((List.replicate m (0 : Int)).map V.int))) := by
      have ne := w2.ne nw
      refine ⟨none_back (s1.trans s2) w2 nw, ne, upd_same, List.length_replicate, fun x hx => ?_, ?_, w3⟩
      · rw [(List.mem_replicate.mp hx).2]
        decide
      · rw [hid2_upd ne]
        intro b o e
        have hb : b ≠ pw := fun z => by
          have := none_back (s1.trans s2) w2 nw
          rw [z, hid_ne ne, this] at e
          cases e
        rw [hid_ne hb]
        exact (s1.trans s2) _ _ e
    generalize upd (upd H1 p2 (.lst [.int 0])) pw (.lst ((List.replicate m (0 : Int)).map V.int)) = H3 at W0
    -- how many places
    refine ⟨by show 4 ≤ sizeLine; decide, fun p4 n4 => ?_⟩
    obtain ⟨w4, s4⟩ := well_new (o := .lst [.int 1, .int 2, .int 3, .int 0]) W0.well n4
    have W4 := W0.step s4 w4
    obtain ⟨c, hc, c0, c3⟩ : ∃ c : Int, atI [V.int 1, V.int 2, V.int 3, V.int 0] way = some (.int c) ∧ 0 ≤ c ∧ c ≤ 3 := by
      have : way = 0 ∨ way = 1 ∨ way = 2 ∨ way = 3 := by omega
      rcases this with e | e | e | e <;> subst e <;> exact ⟨_, rfl, by decide, by decide⟩
    refine ⟨_, rfl, p4, _, _, _, rfl, rfl, sqL_new, hc, c, rfl, by omega, by omega, for_range (fun i σ H' => ∃ ns z4 z5 z6 z7, σ = [some (.ref a), some (.int m), some (.int way), some (.ref pw), z4, z5, z6, z7] ∧ WtAt H a m (10 * i) (n + 39 - 2 * i) pw ns H') ⟨_, _, _, _, _, rfl, W4⟩ (fun i σ H' hi h => ?_) (fun σ H' h => ?_)⟩
    · obtain ⟨ns, z4, z5, z6, z7, rfl, Wi⟩ := h
      have hi3 : i < 3 := by omega
      refine ⟨_, rfl, _, rfl, a, m, n + 39 - 2 * i - 1, rfl, Wi.well.mono (by omega), by omega, lm, fun d H5 d0 d1 s5 w5 => ?_⟩
      have W5 := Wi.step s5 w5
      have hd : d.toNat < ns.length := by rw [W5.len]; omega
      have eA : atI (ns.map V.int) d = some (.int ns[d.toNat]) := by
        obtain ⟨x, e1, e2⟩ := atI_get (xs := ns.map V.int) (i := d) d0 (by rw [List.length_map, W5.len]; exact d1)
        rw [List.getElem?_map, List.getElem?_eq_getElem hd] at e2
        cases e2
        exact e1
      refine ⟨_, rfl, _, rfl, pw, _, _, _, rfl, rfl, SqL.of W5.at_, eA, _, _, rfl, rfl, _, rfl, a, 9, n + 39 - 2 * i - 2, rfl, W5.well.mono (by omega), by decide, log_small (m := 9) (by decide), fun d9 H6 d90 d91 s6 w6 => ?_⟩
      have W6 := W5.step s6 w6
      have b6 := W6.bd _ (List.getElem_mem hd)
      refine ⟨_, _, rfl, rfl, _, rfl, _, rfl, pw, _, _, d.toNat, rfl, rfl, W6.at_, ?_, ?_⟩
      · unfold ixN
        rw [List.length_map, W6.len, if_pos d0, if_pos d1]
      · refine ⟨ns.set d.toNat (ns[d.toNat] + 1 + d9), _, _, _, _, rfl, ?_⟩
        have := (W6.upB (B' := 10 * ((i + 1 : Nat) : Int)) (by omega)).set d.toNat (v := ns[d.toNat] + 1 + d9) (by omega) (by omega)
        exact ⟨this.new, this.ne, this.at_, this.len, this.bd, this.same, this.well.mono (by omega)⟩
    · obtain ⟨ns, z4, z5, z6, z7, rfl, Wi⟩ := h
      have Wi : WtAt H a m 40 (n + 30) pw ns H' := by
        have := Wi.upB (B' := 40) (by omega)
        exact ⟨this.new, this.ne, this.at_, this.len, this.bd, this.same, this.well.mono (by omega)⟩
      refine ⟨_, rfl, rfl, _, rfl, ite_mid (fun σ H' => ∃ pw ns z4 z5 z6 z7, σ = [some (.ref a), some (.int m), some (.int way), some (.ref pw), z4, z5, z6, z7] ∧ WtAt H a m 40 (n + 5) pw ns H') (fun _ fin => ?_) (fun _ => ⟨pw, ns, _, _, _, _, rfl, Wi.step (Same.refl _) (Wi.well.mono (by omega))⟩) (fun σ H7 h => ?_)⟩
      · refine ⟨_, rfl, m, rfl, by omega, by omega, fun D nD => lc_wellR (a := a) (fun y _ => ∃ d : Int, y = .int d ∧ 0 ≤ d ∧ d < 12) (fun _ _ _ _ h => h) 1 (n + 5) nD (Wi.well.mono (by omega)) (by omega) (fun i5 H12 k5 k hi w12 s12 eD hk => ?_) (fun H12 ys s12 w12 e12 l12 r12 => ?_)⟩
        · refine ⟨rfl, _, rfl, a, 12, k5, rfl, w12, by decide, log_small (m := 12) (by decide), fun d H13 d0 d1 s13 w13 => hk _ _ s13 w13 ⟨d, rfl, d0, d1⟩⟩
        · obtain ⟨ds, hds⟩ := allAre_of (R := fun y d => y = V.int d ∧ 0 ≤ d ∧ d < 12) r12
          have ey : ys = ds.map V.int := by
            refine List.ext_getElem? fun j => ?_
            rw [List.getElem?_map]
            cases e : ys[j]? with
            | none =>
              have : ds.length ≤ j := by rw [← hds.1]; exact List.getElem?_eq_none_iff.mp e
              rw [List.getElem?_eq_none_iff.mpr this]
              rfl
            | some y =>
              obtain ⟨d, hd, rfl, _⟩ := hds.at e
              rw [hd]
              rfl
          have nDa := Wi.well.ne nD
          refine fin _ _ ⟨D, ds, _, _, _, _, rfl, ?_, nDa, by rw [← ey]; exact e12, by rw [← hds.1, l12]; omega, fun x hx => ?_, ?_, w12⟩
          · cases e : H D with
            | none => rfl
            | some o =>
              have := (Wi.same.trans hid_same) D o (by rw [hid_ne nDa]; exact e)
              rw [hid_ne nDa, nD] at this
              cases this
          · obtain ⟨y, _, h0, h1⟩ := hds.mem hx
            omega
          · exact (Wi.same.trans hid_same).trans s12
      · obtain ⟨pw, ns, z4, z5, z6, z7, rfl, W7⟩ := h
        refine ⟨_, rfl, pw, ns, rfl, SqL.of W7.at_, rfl, _, rfl, ite_mid (fun σ H' => ∃ ns z4 z5 z6 z7, σ = [some (.ref a), some (.int m), some (.int way), some (.ref pw), z4, z5, z6, z7] ∧ WtAt H a m 40 n pw ns H' ∧ 0 < ns.sum) (fun _ fin => ?_) (fun h0 => ?_) (fun σ H8 h => ?_)⟩
        · refine ⟨_, rfl, _, rfl, _, rfl, a, m, n, rfl, W7.well.mono (by omega), by omega, lm, fun d H9 d0 d1 s9 w9 => ?_⟩
          have W9 := W7.step s9 w9
          refine ⟨pw, _, _, d.toNat, rfl, rfl, W9.at_, ?_, ?_⟩
          · unfold ixN
            rw [List.length_map, W9.len, if_pos d0, if_pos d1]
          · have W10 := W9.set d.toNat (v := 1) (by decide) (by decide)
            refine fin _ _ ⟨_, _, _, _, _, rfl, W10, ?_⟩
            have hd : d.toNat < ns.length := by rw [W9.len]; omega
            have := sum_ge (fun x hx => (W10.bd x hx).1) (List.mem_set (a := (1 : Int)) hd)
            omega
        · refine ⟨ns, _, _, _, _, rfl, W7.step (Same.refl _) (W7.well.mono (by omega)), ?_⟩
          have := sum_nn fun x hx => (W7.bd x hx).1
          have : ns.sum ≠ 0 := fun z => h0 (decide_eq_true (by rw [z]))
          omega
        · obtain ⟨ns, z4, z5, z6, z7, rfl, W8, h0⟩ := h
          have S1 : ns.sum ≤ 12 * 40 := by
            have := sum_le fun x hx => (W8.bd x hx).2
            have := W8.len
            omega
          refine ⟨_, rfl, pw, rfl, ⟨_, SqL.of W8.at_⟩, fun D nD => lc_all (K := K) (a := pw) (xs := ns.map V.int) (fun i y G => ∃ z, (ns.map fun x => Rat.divInt x ns.sum)[i]? = some z ∧ IsPr G y z) (fun _ _ _ _ s h => h.elim fun p f => ⟨p, f.1, f.2.mono s⟩) nD (SqL.of W8.at_) (by rw [List.length_map, W8.len]; omega) (fun i x H9 k hi s9 eD hk => ?_) (fun H9 ys s9 e9 l9 r9 => ?_)⟩
          · rw [List.getElem?_map] at hi
            obtain ⟨t, ht, rfl⟩ := Option.map_eq_some_iff.mp hi
            have at9 := hid_same _ _ (s9 _ _ W8.at_)
            refine ⟨rfl, _, rfl, _, rfl, pw, ns, rfl, SqL.of at9, t, ns.sum, rfl, by omega, ?_, fun H10 r10 s10 h10 => ?_⟩
            · have e : ns.sum = ((ns.sum.toNat : Nat) : Int) := by omega
              rw [e]
              exact log_small (by omega)
            · refine hk _ _ s10 ⟨_, by rw [List.getElem?_map, ht]; rfl, IsTup2.hidL ?_ h10⟩
              obtain ⟨ys', e'⟩ := eD
              exact ⟨ys', s10 _ _ e'⟩
          · have nDa := W8.well.ne nD
            have w9 := W8.well.same (s9.trans hid_same)
            refine q H9 D _ ?_ ((W8.same.trans hid_same).trans (hid_mono (s9.trans hid_same))) w9 ⟨D, ys, rfl, by rw [hid_ne nDa]; exact e9, .of_ix (by rw [l9, List.length_map, List.length_map]) fun i y hy => ?_⟩ (by rw [List.length_map, W8.len]) (heap_ok W8.bd h0 (by rw [W8.len]; exact m12) (by decide))
            · cases e : H D with
              | none => rfl
              | some o =>
                have := (W8.same.trans hid_same) D o (by rw [hid_ne nDa]; exact e)
                rw [hid_ne nDa, nD] at this
                cases this
            · obtain ⟨z, hz, hi⟩ := r9 i y hy
              exact ⟨z, hz, IsTup2.hid w9 (hi.mono hid_same)⟩
end

end Fb

namespace Fb
open PySem PySem.Spec PyProof.Rows L2
section
variable {P : Program} {w : World} {K : PySem.W.Frag} {mg : Str → Option Value} {base : Heap}
/-! ### the law's plans -/
theorem ite_fin {c A B : Prop} [Decidable c] {Rest : V → Hp → Prop} (H : Hp) (M : V → Prop) (h1 : c → (∀ x, M x → Rest x H) → A) (h2 : ¬ c → (∀ x, M x → Rest x H) → B) (h3 : ∀ x, M x → Rest x H) : if c then A else B := by
  by_cases h : c
  · rw [if_pos h]
    exact h1 h h3
  · rw [if_neg h]
    exact h2 h h3
def tblOf (m k : Nat) (T : Nat → Nat → Rat) : List (List Rat) := (List.range m).map fun x => (List.range k).map (T x)
def spFilled : Sp := fun vs H Q _ => ∃ (a : Addr) (v u : V) (pl ql : List Rat) (n : Nat), vs = [.ref a, v, u] ∧ WellAt H a (n + 150) ∧ IsPrs (hid a H) v pl ∧ IsPrs (hid a H) u ql ∧ HeapOk pl ∧ HeapOk ql ∧ pl.length ≤ 12 ∧ ql.length ≤ 12 ∧
  ∀ H' p T, H p = none → Same (hid a H) (hid a H') → WellAt H' a n → IsTbl IsPrs (hid a H') (.ref p) (tblOf pl.length ql.length T) → PlanOk pl.length ql.length (at0 pl) (at0 ql) T → Q (.ref p) H'
theorem VecAt.hidN {H : Hp} {a p : Addr} {n m : Nat} {f : Nat → Rat} (w : WellAt H a n) (hp : p ≠ a) (v : VecAt H p m f) : VecAt (hid a H) p m f := by
  obtain ⟨vs, e, l, r⟩ := v
  exact ⟨vs, by rw [hid_ne hp]; exact e, l, fun i v hv => IsTup2.hid w (r i v hv)⟩
theorem ok_l_filled (T : Txt K mg) : FnOk P w K mg base CX0 3 T.f_l_filled T.d_l_filled ["_law_well_here", "_law_first", "_law_second"] spFilled := by
  refine T.F_l_filled.ok sc_l_filled (fun vs H Q E h => ?_) (fun cdv A outer s H vs Q E hr h => ?_)
  · obtain ⟨a, v, u, pl, ql, n, rfl, _⟩ := h
    rfl
  · obtain ⟨a, v, u, pl, ql, n, rfl, hw, hv, hu, okp, okq, m12, k12, q⟩ := h
    refine ⟨_, (pss_cons (ps_par (i := 3) (j := 4) (by rfl) sc_l_filled.nd rfl rfl (by decide) rfl rfl (pa_cons (pe_callTy call_list_of (by rfl) T.z_list (by decide +kernel) (pa_cons (pv 1) pa_nil)) (pa_cons (pe_callTy call_list_of (by rfl) T.z_list (by decide +kernel) (pa_cons (pv 2) pa_nil)) pa_nil)) (by rfl))
 (pss_cons (ps_setLc (i := 5) (own := [("_law_share", 10)]) (g := (gName 10)) (tt := tYes) (by rfl) sc_l_filled.nd rfl rfl (sw_true rfl rfl rfl (by decide +kernel)) (pi_list (pv 1)) (blkOk_by (own := [("_law_share", 10)]) (N := ["_law_well_here", "_law_first", "_law_second", "_law_have", "_law_want", "_law_plan", "_law_spots", "_law_x", "_law_y", "_law_amount", "_law_share"]) (sc := defScope s_l_filled) (by decide +kernel)) (fun _ _ _ _ _ => by exact (pg_name (i := 10) sc_l_filled.nd rfl (.inl rfl))) (fun _ _ _ _ _ => by exact pts_nil) (fun _ _ _ _ _ => by exact (pe_op op_rep (pe_lst (pa_cons (pe_tup (pa_cons pe_int (pa_cons pe_int pa_nil))) pa_nil)) (pe_callB (call_len_seqK (K := K) rfl) (by rfl) T.z_len (by decide +kernel) (pa_cons (pv 2) pa_nil)))))
 (pss_cons (ps_set (i := 6) sc_l_filled.nd rfl (.inl rfl) (pe_lst pa_nil))
 (pss_cons (ps_for PassesOwn.never rfl (pi_range1 (by rfl) T.z_range (pa_cons (pe_callB call_len_seq (by rfl) T.z_len (by decide +kernel) (pa_cons (pv 1) pa_nil)) pa_nil)) (pg_name (i := 7) sc_l_filled.nd rfl (.inr rfl))
  (pss_one (ps_expr (pe_bm PySem.F.plainAttrs_list PySem.F.slot_list_extend PySem.F.type_list_extend mt_extend (pv 6) (pa_cons (pe_lc (own := [("_law_y", 8)]) (g := (gName 8)) (tt := tYes) (by rfl) sc_l_filled.nd (pi_range1 (by rfl) T.z_range (pa_cons (pe_callB call_len_seq (by rfl) T.z_len (by decide +kernel) (pa_cons (pv 2) pa_nil)) pa_nil)) (blkOk_by (own := [("_law_y", 8)]) (N := ["_law_well_here", "_law_first", "_law_second", "_law_have", "_law_want", "_law_plan", "_law_spots", "_law_x", "_law_y", "_law_amount", "_law_share"]) (sc := defScope s_l_filled) (by decide +kernel)) (fun _ _ _ _ _ => by exact (pg_name (i := 8) sc_l_filled.nd rfl (.inl rfl))) (fun _ _ _ _ _ => by exact pts_nil) (fun _ _ _ _ _ => by exact (pe_tup (pa_cons (pv 7) (pa_cons (pv 8) pa_nil))))) pa_nil)))))
 (pss_cons (ps_while PassesOwn.never (pt_cmpR (op_neNil hr.units0) (pv 6) (pe_lst pa_nil) (nomark _))
  (pss_cons (ps_asg (pe_bm PySem.F.plainAttrs_list PySem.F.slot_list_pop PySem.F.type_list_pop mt_popAt (pv 6) (pa_cons (pe_call (ok_l_draw T) (hr.mono (by decide)) (by rfl) T.g_l_draw T.F_l_draw.kp T.b_l_draw .nil pass0 (pa_cons (pv 0) (pa_cons (pe_callB call_len_seq (by rfl) T.z_len (by decide +kernel) (pa_cons (pv 6) pa_nil)) pa_nil))) pa_nil)) (pg_tup (by rfl) (pgs_cons (pg_name (i := 7) sc_l_filled.nd rfl (.inr rfl)) (pgs_cons (pg_name (i := 8) sc_l_filled.nd rfl (.inl rfl)) pgs_nil))))
 (pss_cons (ps_set (i := 9) sc_l_filled.nd rfl (.inl rfl) (pe_ifExp (pt_val (pe_call (ok_l_below T) (hr.mono (by decide)) (by rfl) T.g_l_below T.F_l_below.kp T.b_l_below .nil pass0 (pa_cons (pe_ix ix_list (pv 4) (pv 8) (fun _ _ => rfl)) (pa_cons (pe_ix ix_list (pv 3) (pv 7) (fun _ _ => rfl)) pa_nil)))) (pe_ix ix_list (pv 4) (pv 8) (fun _ _ => rfl)) (pe_ix ix_list (pv 3) (pv 7) (fun _ _ => rfl))))
 (pss_cons (ps_asg (pv 9) (pg_sub (pe_ix ix_list (pv 5) (pv 7) (fun _ _ => rfl)) (pv 8) set_list))
 (pss_cons (ps_asg (pe_call (ok_l_added T) (hr.mono (by decide)) (by rfl) T.g_l_added T.F_l_added.kp T.b_l_added .nil pass0 (pa_cons (pe_ix ix_list (pv 3) (pv 7) (fun _ _ => rfl)) (pa_cons (pe_tup (pa_cons (pe_op op_sub pe_int (pe_ix ix_tup (pv 9) pe_int (fun _ _ => rfl))) (pa_cons (pe_ix ix_tup (pv 9) pe_int (fun _ _ => rfl)) pa_nil))) pa_nil))) (pg_sub (pv 3) (pv 7) set_list))
 (pss_one (ps_asg (pe_call (ok_l_added T) (hr.mono (by decide)) (by rfl) T.g_l_added T.F_l_added.kp T.b_l_added .nil pass0 (pa_cons (pe_ix ix_list (pv 4) (pv 8) (fun _ _ => rfl)) (pa_cons (pe_tup (pa_cons (pe_op op_sub pe_int (pe_ix ix_tup (pv 9) pe_int (fun _ _ => rfl))) (pa_cons (pe_ix ix_tup (pv 9) pe_int (fun _ _ => rfl)) pa_nil))) pa_nil))) (pg_sub (pv 4) (pv 8) set_list))))))))
 (pss_one (ps_ret (pv 5)))))))), ?_⟩
    obtain ⟨p1, xs1, rfl, e1, a1⟩ := id hv
    obtain ⟨p2, xs2, rfl, e2, a2⟩ := id hu
    have sh : ∀ H', Same (hid a H) H' → Same (hid a H) H' := fun _ s => s
    -- the two copies
    refine ⟨_, rfl, p1, xs1, rfl, .inl (hid_same.seq (SqL.of e1)), fun ph nh => ?_⟩
    obtain ⟨w3, s3⟩ := well_new (o := .lst xs1) hw nh
    refine ⟨_, rfl, p2, xs2, rfl, .inl ((s3.trans hid_same).seq (SqL.of e2)), fun pw nw => ?_⟩
    obtain ⟨w4, s4⟩ := well_new (o := .lst xs2) w3 nw
    refine ⟨_, _, rfl, ?_⟩
    have hhw : ph ≠ pw := fun z => by
      rw [← z, upd_same] at nw
      cases nw
    have s34 := s3.trans s4
    have vh : VecAt (upd (upd H ph (.lst xs1)) pw (.lst xs2)) ph pl.length (at0 pl) := by
      refine ⟨xs1, by rw [upd_ne hhw]; exact upd_same, a1.1, fun i v hv => ?_⟩
      obtain ⟨z, hz, r⟩ := a1.at hv
      rw [at0_of hz]
      exact r.mono (s34.trans hid_same)
    have vw : VecAt (upd (upd H ph (.lst xs1)) pw (.lst xs2)) pw ql.length (at0 ql) := by
      refine ⟨xs2, upd_same, a2.1, fun i v hv => ?_⟩
      obtain ⟨z, hz, r⟩ := a2.at hv
      rw [at0_of hz]
      exact r.mono (s34.trans hid_same)
    have nwH : H pw = none := by
      rw [upd_ne hhw.symm] at nw
      exact nw
    have nha := hw.ne nh
    have nwa := hw.ne nwH
    generalize upd (upd H ph (.lst xs1)) pw (.lst xs2) = H4 at *
    -- the plan of noughts
    have q1 : SqL K H4 p1 xs1 := (s34.trans hid_same).seq (SqL.of e1)
    have q2 : SqL K H4 p2 xs2 := (s34.trans hid_same).seq (SqL.of e2)
    refine ⟨_, rfl, p1, rfl, ⟨_, q1⟩, fun pp npp => lc_rows (K := K) (a := p1) (xs := xs1) ql.length (fun _ => 0) npp q1 (by rw [a1.1]; omega) (fun i x H5 kk hx s5 hk => ?_) (fun H5 rs s5 e5 l5 nd5 r5 => ?_)⟩
    · refine ⟨rfl, by show 2 ≤ sizeLine; decide, fun t nt => ⟨by show 1 ≤ sizeLine; decide, fun l nl => ?_⟩⟩
      have st := same_upd (o := .tup [.int 0, .int 1]) nt
      have sl := same_upd (o := .lst [.ref t]) nl
      refine ⟨_, rfl, p2, xs2, rfl, .inl ((s5.trans (st.trans sl)).seq q2), l, _, _, rfl, rfl, upd_same, by omega, by rw [a2.1]; omega, ?_, fun r nr => ?_⟩
      · show 1 * ((xs2.length : Nat) : Int).toNat ≤ sizeLine
        rw [Int.toNat_natCast, Nat.one_mul, a2.1]
        exact Nat.le_of_lt (small1000 (by omega))
      · have sr := same_upd (o := .lst (List.replicate ((xs2.length : Nat) : Int).toNat [V.ref t]).flatten) nr
        have nrl : r ≠ l := fun z => by
          rw [z, upd_same] at nr
          cases nr
        have nrt : r ≠ t := fun z => by
          rw [z, sl _ _ upd_same] at nr
          cases nr
        refine hk r _ ?_ (st.trans (sl.trans sr)) ?_
        · rw [upd_ne nrl, upd_ne nrt] at nr
          exact nr
        · refine ⟨_, upd_same, ?_, fun j v hv => ?_⟩
          · rw [Int.toNat_natCast, flat_rep, List.length_replicate, a2.1]
          · rw [Int.toNat_natCast, flat_rep] at hv
            have : v = .ref t := by
              have := List.mem_of_getElem? hv
              exact (List.mem_replicate.mp this).2
            subst this
            exact ⟨t, rfl, sr _ _ (sl _ _ upd_same)⟩
    -- no spots
    have sD : Same H4 H5 := s5.trans hid_same
    have w5 := w4.same sD
    refine ⟨Nat.zero_le _, fun ps nps => ?_⟩
    have s6 := same_upd (o := .lst []) nps
    have F0 : FillAt H a (n + 150) pl.length ql.length ph pw pp ps rs (at0 pl) (at0 ql) (fun _ _ => 0) (spotsTo ql.length 0) (upd H5 ps (.lst [])) := by
      have nd := List.nodup_cons.mp nd5
      have all4 : ∀ p, H4 p = none → H p = none ∧ p ≠ a := fun p hp => ⟨none_back s34 w4 hp, w4.ne hp⟩
      have np5 : H4 ps = none := by
        cases e : H4 ps with
        | none => rfl
        | some o =>
          have := sD _ _ e
          rw [nps] at this
          cases this
      have h4 : H4 ph ≠ none := by
        obtain ⟨vs, e, _⟩ := vh
        rw [e]
        exact fun z => nomatch z
      have w4' : H4 pw ≠ none := by
        obtain ⟨vs, e, _⟩ := vw
        rw [e]
        exact fun z => nomatch z
      refine ⟨s34.trans (hid_mono (sD.trans s6)), w5.same s6, fun p hp => ?_, ?_, (vh.same sD).same s6, (vw.same sD).same s6, s6 _ _ e5, by rw [l5, a1.1], fun x r hr => ((r5 r (List.mem_of_getElem? hr)).2).same s6, ⟨[], upd_same, .nil⟩⟩
      · simp only [List.mem_cons] at hp
        rcases hp with rfl | rfl | rfl | rfl | hp
        · exact ⟨nh, nha⟩
        · exact ⟨nwH, nwa⟩
        · exact all4 _ npp
        · exact all4 _ np5
        · exact all4 _ (r5 _ hp).1
      · simp only [List.nodup_cons, List.mem_cons, not_or]
        refine ⟨⟨hhw, fun z => h4 (z ▸ npp), fun z => h4 (z ▸ np5), fun z => h4 (r5 _ z).1⟩, ⟨fun z => w4' (z ▸ npp), fun z => w4' (z ▸ np5), fun z => w4' (r5 _ z).1⟩, ⟨fun z => ?_, nd.1⟩, fun z => ?_, nd.2⟩
        · rw [← z, e5] at nps
          cases nps
        · obtain ⟨vs', ev, _⟩ := (r5 _ z).2
          rw [ev] at nps
          cases nps
    generalize upd H5 ps (.lst []) = H6 at F0
    -- all spots
    have q16 : ∀ {H'}, Same (hid a H) (hid a H') → SqL K H' p1 xs1 := fun s => (s.trans hid_same).seq (SqL.of e1)
    have q26 : ∀ {H'}, Same (hid a H) (hid a H') → SqL K H' p2 xs2 := fun s => (s.trans hid_same).seq (SqL.of e2)
    refine ⟨_, rfl, p1, xs1, rfl, .inl (q16 F0.same), _, rfl, by omega, by rw [a1.1]; omega, for_range (fun i σ H' => ∃ z7 z8 z9 z10, σ = [some (.ref a), some (.ref p1), some (.ref p2), some (.ref ph), some (.ref pw), some (.ref pp), some (.ref ps), z7, z8, z9, z10] ∧ FillAt H a (n + 150) pl.length ql.length ph pw pp ps rs (at0 pl) (at0 ql) (fun _ _ => 0) (spotsTo ql.length i) H') ⟨_, _, _, _, rfl, F0⟩ (fun i σ H' hi h => ?_) (fun σ H' h => ?_)⟩
    · obtain ⟨z7, z8, z9, z10, rfl, F⟩ := h
      obtain ⟨sv0, esv0, _⟩ := F.spots
      refine ⟨_, rfl, .inl ⟨rfl, _, SqL.of esv0⟩, _, rfl, p2, xs2, rfl, .inl (q26 F.same), _, rfl, by omega, by rw [a2.1]; omega, fun D nD => lc_allR (fun j y G => IsTup2 G y (i : Int) (j : Int)) (fun _ _ _ _ s h => h.mono s) nD (by rw [Int.toNat_natCast, a2.1]; omega) (fun j H7 kk hj s7 eD hk => ?_) (fun H7 ys s7 e7 l7 r7 => ?_)⟩
      · refine ⟨rfl, _, rfl, _, rfl, by show 2 ≤ sizeLine; decide, fun t nt => ?_⟩
        have st := same_upd (o := .tup [.int (0 + (i : Int)), .int (0 + (j : Int))]) nt
        refine hk _ _ st (IsTup2.hidL ?_ ⟨t, rfl, ?_⟩)
        · obtain ⟨ys', e'⟩ := eD
          exact ⟨ys', st _ _ e'⟩
        · rw [upd_same, Int.zero_add, Int.zero_add]
      · have s77 : Same H' H7 := s7.trans hid_same
        have F7 := F.keep (hid_mono s77) (F.well.same s77)
        obtain ⟨sv, esv, asv⟩ := F7.spots
        have lsv : sv.length ≤ 144 := by
          rw [asv.1, spotsTo_len]
          have : i < 12 := by rw [a1.1] at hi; omega
          exact Nat.mul_le_mul (Nat.le_of_lt this) k12
        refine ⟨ps, D, sv, ys, rfl, rfl, esv, e7, Nat.le_of_lt (small1000 (by rw [l7, Int.toNat_natCast, a2.1]; omega)), ?_⟩
        refine ⟨_, _, _, _, rfl, ?_⟩
        have := F7.ext (more := (List.range ql.length).map fun y => (i, y)) esv (ys := ys) (.of_ix (by rw [l7, List.length_map, List.length_range, Int.toNat_natCast, a2.1]) fun j y hy => ⟨(i, j), ?_, (r7 j y hy).mono hid_same⟩)
        · exact this
        · have := (List.getElem?_eq_some_iff.mp hy).1
          rw [List.getElem?_map, List.getElem?_range (by rw [l7, Int.toNat_natCast, a2.1] at this; exact this)]
          rfl
    · obtain ⟨z7, z8, z9, z10, rfl, F⟩ := h
      rw [Int.toNat_natCast, a1.1] at F
      obtain ⟨S, S0, S1, M0⟩ := FillM.start okp okq
      have l0 : (spotsTo ql.length pl.length).length ≤ 144 := by
        rw [spotsTo_len]
        exact Nat.mul_le_mul m12 k12
      -- filling
      refine ⟨fun c σ H' => ∃ z7 z8 z9 z10 h g Tb sp, σ = [some (.ref a), some (.ref p1), some (.ref p2), some (.ref ph), some (.ref pw), some (.ref pp), some (.ref ps), z7, z8, z9, z10] ∧ c = sp.length ∧ sp.length ≤ 144 ∧ FillAt H a (n + sp.length) pl.length ql.length ph pw pp ps rs h g Tb sp H' ∧ FillM pl.length ql.length (at0 pl) (at0 ql) S h g Tb sp, ⟨_, _, _, _, _, _, _, _, _, rfl, rfl, l0, F.keep (Same.refl _) (F.well.mono (by omega)), M0⟩, fun c σ H' hW => ?_⟩
      obtain ⟨z7, z8, z9, z10, h, g, Tb, sp, rfl, rfl, l1, F, M⟩ := hW
      obtain ⟨sv, esv, asv⟩ := F.spots
      refine ⟨_, rfl, Nat.zero_le _, fun e0 n0 => ?_⟩
      have sE := same_upd (o := .lst []) n0
      have F := F.keep (hid_mono sE) (F.well.same sE)
      have esv := sE _ _ esv
      have asv := asv.imp fun _ _ r => r.mono sE
      refine ⟨ps, e0, sv, rfl, rfl, SqL.of esv, sqL_new, _, rfl, ite2 (fun hb => ?_) (fun hb => ?_)⟩
      · have hne : sp ≠ [] := fun z => by
          rw [z] at asv
          have : sv = [] := List.length_eq_zero_iff.mp asv.1
          subst this
          exact absurd hb (by simp)
        have lpos : 0 < sp.length := List.length_pos_iff.mpr hne
        generalize upd H' e0 (.lst []) = H8 at *
        refine ⟨fun σ H' => ∃ z7 z8 z9 z10 h g Tb sp', σ = [some (.ref a), some (.ref p1), some (.ref p2), some (.ref ph), some (.ref pw), some (.ref pp), some (.ref ps), z7, z8, z9, z10] ∧ sp'.length + 1 = sp.length ∧ FillAt H a (n + sp'.length) pl.length ql.length ph pw pp ps rs h g Tb sp' H' ∧ FillM pl.length ql.length (at0 pl) (at0 ql) S h g Tb sp', fun σ' H'' hN => ?_, ?_⟩
        · obtain ⟨z7, z8, z9, z10, h, g, Tb, sp', rfl, l2, F2, M2⟩ := hN
          exact ⟨_, by omega, _, _, _, _, _, _, _, _, rfl, rfl, by omega, F2, M2⟩
        · -- a spot is drawn
          refine ⟨_, rfl, .inl ⟨rfl, _, SqL.of esv⟩, _, rfl, _, rfl, ps, sv, rfl, .inl (SqL.of esv), a, (sv.length : Nat), n + sp.length - 1, rfl, F.well.mono (by omega), by rw [asv.1]; omega, log_small (by rw [asv.1]; omega), fun d H9 d0 d1 s9 w9 => ?_⟩
          have F9 := F.keep s9 w9
          obtain ⟨sv', esv9, asv9⟩ := F9.spots
          have esame : sv' = sv := by
            have := s9 ps _ (by rw [hid_ne (F.new ps (by simp)).2]; exact esv)
            rw [hid_ne (F.new ps (by simp)).2, esv9] at this
            cases this
            rfl
          subst esame
          have hd : d.toNat < sv'.length := by omega
          obtain ⟨⟨x, y⟩, hxy, ⟨pt, ept, ht⟩⟩ := asv9.at (List.getElem?_eq_getElem hd)
          obtain ⟨hx, hy⟩ := M.inb _ (List.mem_of_getElem? hxy)
          simp only at hx hy ht
          refine ⟨ps, sv', d, d.toNat, _, rfl, rfl, esv9, by omega, by rw [asv.1] at d1; omega, ?_, List.getElem?_eq_getElem hd, ?_⟩
          · have h1 : ¬ d < 0 := by omega
            simp only [seqIndex?, if_neg h1, decide_eq_true d0, decide_eq_true d1, Bool.and_self, if_true]
          have F10 := F9.pop (j := d.toNat) esv9
          have t10 : TS H9 _ := TS.lst (o := .lst (sv'.eraseIdx d.toNat)) esv9
          have ht := t10 _ _ ht
          rw [ept]
          generalize upd H9 ps (.lst (sv'.eraseIdx d.toNat)) = H10 at *
          refine ⟨pt, _, rfl, .inl (.inl ht), rfl, _, _, rfl, _, _, rfl, rfl, ?_⟩
          -- how much
          obtain ⟨hvs, hv1, eh, lh, gh, ih⟩ := F10.have_.at hx
          obtain ⟨wvs, wv1, ew, lw, gw, iw⟩ := F10.want.at hy
          have bh : Bd 4000 (h x) := (bd_frac (M.h0 x hx).1 (M.h0 x hx).2.1 S0 S1 (M.h0 x hx).2.2).mono (by decide)
          have bw : Bd 4000 (g y) := (bd_frac (M.g0 y hy).1 (M.g0 y hy).2.1 S0 S1 (M.g0 y hy).2.2).mono (by decide)
          have ixn : ∀ {l : List V} {j : Nat}, j < l.length → ixN l.length (j : Int) = some j := fun {l j} hj => by
            unfold ixN
            rw [if_pos (by omega), if_pos (by omega), Int.toNat_natCast]
          refine ⟨_, rfl, _, rfl, pw, _, _, _, rfl, rfl, SqL.of ew, atI_nat gw, _, rfl, _, rfl, ph, _, _, _, rfl, rfl, SqL.of eh, atI_nat gh, _, _, _, _, rfl, iw, ih, bw, bh, _, rfl, ?_⟩
          refine (if hlt : g y < h x then ?_ else ?_)
          rw [decide_eq_true hlt]
          refine iteT ⟨_, rfl, _, rfl, pw, _, _, _, rfl, rfl, SqL.of ew, atI_nat gw, ?_⟩
          obtain ⟨z, ⟨pA, epA, hA⟩, bz, ez⟩ : ∃ z, IsPr H10 wv1 z ∧ Bd 4000 z ∧ z = (if g y < h x then g y else h x) := ⟨_, iw, bw, (if_pos hlt).symm⟩
          rotate_left
          rw [decide_eq_false hlt]
          refine iteF ⟨_, rfl, _, rfl, ph, _, _, _, rfl, rfl, SqL.of eh, atI_nat gh, ?_⟩
          obtain ⟨z, ⟨pA, epA, hA⟩, bz, ez⟩ : ∃ z, IsPr H10 hv1 z ∧ Bd 4000 z ∧ z = (if g y < h x then g y else h x) := ⟨_, ih, bh, (if_neg hlt).symm⟩
          all_goals rw [epA]
          all_goals clear hlt epA
          all_goals (
            -- it is put
            have hxr : x < rs.length := by rw [F10.rlen]; exact hx
            have hr : rs[x]? = some rs[x] := List.getElem?_eq_getElem hxr
            obtain ⟨rvs, rv1, er, lr, _, _⟩ := (F10.rows x _ hr).at hy
            refine ⟨_, rfl, _, rfl, _, rfl, pp, _, _, _, rfl, rfl, SqL.of F10.tab, atI_nat (by rw [List.getElem?_map, hr]; rfl), _, rfl, rs[x], rvs, _, y, rfl, rfl, er, ixn (by omega), ?_⟩
            have F11 := F10.setR (y := y) hr er (v := .ref pA) (z := z) ⟨pA, rfl, hA⟩
            have hA := TS.lst (o := .lst (rvs.set y (.ref pA))) er _ _ hA
            generalize upd H10 rs[x] (.lst (rvs.set y (.ref pA))) = H11 at *
            clear eh lh gh ih ew lw gw iw
            -- less here
            have neg : ∀ {q : Rat}, Rat.divInt q.num (q.den : Int) + Rat.divInt (0 - z.num) (z.den : Int) = q - z := fun {q} => by
              rw [Int.zero_sub, ← Rat.neg_divInt, divInt_self, divInt_self, ← Rat.sub_eq_add_neg]
            have lz : (0 - z.num).natAbs < 2 ^ 4000 := by
              have := bz.num
              rw [Int.zero_sub, Int.natAbs_neg]
              exact this
            obtain ⟨hvs, hv1, eh, lh, gh, ih⟩ := F11.have_.at hx
            refine ⟨_, rfl, _, rfl, ph, _, _, _, rfl, rfl, SqL.of eh, atI_nat gh, _, rfl, pA, _, _, _, rfl, rfl, .inl (.inl hA), atI_nat (j := 0) rfl, _, _, rfl, rfl, _, rfl, pA, _, _, _, rfl, rfl, .inl (.inl hA), atI_nat (j := 1) rfl, by show 2 ≤ sizeLine; decide, fun t nt => ?_⟩
            have st := same_upd (o := .tup [.int (0 - z.num), .int (z.den : Int)]) nt
            refine ⟨_, _, _, _, _, _, rfl, ih.mono st, ⟨t, rfl, upd_same⟩, bh.num, den_abs bh, lz, den_abs bz, den_ne _, den_ne _, fun H13 r13 s13 h13 => ?_⟩
            have h13 : IsPr H13 r13 (h x - z) := by rw [← neg]; exact h13
            have s1113 := st.trans s13
            have F13 := F11.keep (hid_mono s1113) (F11.well.same s1113)
            have eh := s1113 _ _ eh
            have hA := s1113 _ _ hA
            refine ⟨_, rfl, _, rfl, ph, hvs, _, x, rfl, rfl, eh, ixn (by omega), ?_⟩
            have F14 := F13.setH (j := x) eh h13
            have hA := TS.lst (o := .lst (hvs.set x r13)) eh _ _ hA
            generalize upd H13 ph (.lst (hvs.set x r13)) = H14 at *
            -- less there
            obtain ⟨wvs, wv1, ew, lw, gw, iw⟩ := F14.want.at hy
            refine ⟨_, rfl, _, rfl, pw, _, _, _, rfl, rfl, SqL.of ew, atI_nat gw, _, rfl, pA, _, _, _, rfl, rfl, .inl (.inl hA), atI_nat (j := 0) rfl, _, _, rfl, rfl, _, rfl, pA, _, _, _, rfl, rfl, .inl (.inl hA), atI_nat (j := 1) rfl, by show 2 ≤ sizeLine; decide, fun t' nt' => ?_⟩
            have st' := same_upd (o := .tup [.int (0 - z.num), .int (z.den : Int)]) nt'
            refine ⟨_, _, _, _, _, _, rfl, iw.mono st', ⟨t', rfl, upd_same⟩, bw.num, den_abs bw, lz, den_abs bz, den_ne _, den_ne _, fun H15 r15 s15 h15 => ?_⟩
            have h15 : IsPr H15 r15 (g y - z) := by rw [← neg]; exact h15
            have s1415 := st'.trans s15
            have F15 := F14.keep (hid_mono s1415) (F14.well.same s1415)
            have ew := s1415 _ _ ew
            refine ⟨_, rfl, _, rfl, pw, wvs, _, y, rfl, rfl, ew, ixn (by omega), ?_⟩
            have F16 := F15.setW (j := y) ew h15
            have dl : d.toNat < sp.length := (List.getElem?_eq_some_iff.mp hxy).1
            have le := List.length_eraseIdx_of_lt dl
            exact ⟨_, _, _, _, _, _, _, _, rfl, by rw [le]; omega, F16.keep (Same.refl _) (F16.well.mono (by rw [le]; omega)), M.step S0 hxy ez⟩)
      · have hsp : sp = [] := by
          have : sv = [] := by
            cases sv with
            | nil => rfl
            | cons _ _ => exact absurd rfl hb
          rw [this] at asv
          exact List.length_eq_zero_iff.mp asv.1.symm
        subst hsp
        have tot : rsumN pl.length (at0 pl) = rsumN ql.length (at0 ql) := by
          rw [rsumN_at0, rsumN_at0, okp.one, okq.one]
        obtain ⟨er, ec⟩ := M.end_ tot
        have np := F.new pp (by simp)
        refine ⟨_, rfl, q _ pp Tb np.1 F.same F.well ⟨pp, _, rfl, by rw [hid_ne np.2]; exact F.tab, .of_ix (by simp [tblOf, F.rlen]) fun i v hv => ?_⟩ ⟨er, ec, fun x y hx hy => ⟨(M.t0 x y hx hy).1, bd_frac (M.t0 x y hx hy).1 (M.t0 x y hx hy).2.1 S0 S1 (M.t0 x y hx hy).2.2⟩, ⟨S, S0, S1, fun x y hx hy => (M.t0 x y hx hy).2⟩⟩⟩
        rw [List.getElem?_map] at hv
        obtain ⟨r, hr, rfl⟩ := Option.map_eq_some_iff.mp hv
        have hi := (List.getElem?_eq_some_iff.mp hr).1
        refine ⟨(List.range ql.length).map (Tb i), ?_, ((F.rows i r hr).hidN F.well (F.new r ?_).2).prs⟩
        · unfold tblOf
          rw [List.getElem?_map, List.getElem?_range (by rw [← F.rlen]; exact hi)]
          rfl
        · have := List.mem_of_getElem? hr
          simp [this]
end

end Fb

namespace Fb
open PySem PySem.Spec PyProof.Rows L2
section
variable {P : Program} {w : World} {K : PySem.W.Frag} {mg : Str → Option Value} {base : Heap}
/-! ### rows and tables of anything -/
def odd (v : V) : Prop := v = .int 0 ∨ v = .non ∨ v = .str "0" ∨ v = .bl true
def IsMd (C : Addr) (H : Hp) (v : V) : Option Rat → Prop
  | some q => IsShare C H v q
  | none => odd v
theorem IsMd.mono {C : Addr} {H H' : Hp} {v : V} {o : Option Rat} (s : Same H H') (h : IsMd C H v o) : IsMd C H' v o := by
  cases o with
  | none => exact h
  | some q => exact IsShare.mono h s
def IsL {α : Type} (R : Hp → V → α → Prop) (H : Hp) (v : V) (xs : List α) : Prop := ∃ p vs, v = .ref p ∧ H p = some (.lst vs) ∧ AllAre (R H) vs xs
theorem IsL.mono {α : Type} {R : Hp → V → α → Prop} (m : ∀ H H' v x, Same H H' → R H v x → R H' v x) {H H' : Hp} {v : V} {xs : List α} (s : Same H H') (h : IsL R H v xs) : IsL R H' v xs := by
  obtain ⟨p, vs, e, h, a⟩ := h
  exact ⟨p, vs, e, s _ _ h, a.imp fun _ _ r => m _ _ _ _ s r⟩
theorem TyX.mono {K : PySem.W.Frag} {H H' : Hp} {v : V} {t : Value} (s : Same H H') (h : TyX K H v t) : TyX K H' v t := by
  cases h with
  | base h =>
    cases h with
    | non => exact .base .non
    | bl x => exact .base (.bl x)
    | int i => exact .base (.int i)
    | str x => exact .base (.str x)
    | flt x => exact .base (.flt x)
    | lst e => exact .base (.lst (s _ _ e))
    | frz e => exact .base (.frz (s _ _ e))
    | tup e => exact .base (.tup (s _ _ e))
    | dK e => exact .base (.dK (s _ _ e))
    | dT e => exact .base (.dT (s _ _ e))
    | ins e cl ha hn htk hm => exact .base (.ins (s _ _ e) cl ha hn htk hm)
  | byt b => exact .byt b
  | set e => exact .set (s _ _ e)
  | kList e c => exact .kList e c
  | kTuple e c => exact .kTuple e c
  | kDict e c => exact .kDict e c
  | fTuple e => exact .fTuple (s _ _ e)
  | fDict e => exact .fDict (s _ _ e)
def NoList (K : PySem.W.Frag) (H : Hp) (v : V) : Prop := ∃ t, TyX K H v t ∧ PySem.W.kitOne K t (.type "list") = some false
abbrev Row := Option (List (Option Rat))
def IsRw (K : PySem.W.Frag) (C : Addr) (H : Hp) (v : V) : Row → Prop
  | some its => IsL (IsMd C) H v its
  | none => NoList K H v
theorem IsRw.mono {K : PySem.W.Frag} {C : Addr} {H H' : Hp} {v : V} {r : Row} (s : Same H H') (h : IsRw K C H v r) : IsRw K C H' v r := by
  cases r with
  | none =>
    obtain ⟨t, ty, k⟩ := h
    exact ⟨t, TyX.mono s ty, k⟩
  | some its => exact IsL.mono (R := IsMd C) (fun _ _ _ _ s h => IsMd.mono s h) s h
def shOk (its : List (Option Rat)) (m : Nat) : Bool := decide (its.length = m) && its.all Option.isSome
def nnOk (o : Option Rat) : Bool := decide (0 ≤ o.getD 0)
def amOk (its : List (Option Rat)) (m : Nat) : Bool := shOk its m && its.all nnOk
def onRow (f : List (Option Rat) → Nat → Bool) (m : Nat) : Row → Bool
  | some its => f its m
  | none => false
def spRow (K : PySem.W.Frag) (C : Addr) (f : List (Option Rat) → Nat → Bool) : Sp := fun vs H Q _ => ∃ (v : V) (m : Nat) (r : Row), vs = [v, .int m] ∧ IsRw K C H v r ∧ (∀ its, r = some its → its.length ≤ 900) ∧ ∀ H', Same H H' → Q (.bl (onRow f m r)) H'
theorem bools_of {α : Type} {ys : List V} {xs : List α} {f : α → Bool} (l : ys.length = xs.length) (h : ∀ (i : Nat) y, ys[i]? = some y → ∃ x, xs[i]? = some x ∧ y = .bl (f x)) : ys = (xs.map f).map V.bl := by
  refine List.ext_getElem? fun i => ?_
  by_cases hi : i < ys.length
  · obtain ⟨x, hx, e⟩ := h i _ (List.getElem?_eq_getElem hi)
    rw [List.getElem?_eq_getElem hi, e, List.map_map, List.getElem?_map, hx]
    rfl
  · rw [List.getElem?_eq_none (by omega), List.getElem?_eq_none (by rw [List.length_map, List.length_map]; omega)]
theorem all_map_id {α : Type} (xs : List α) (f : α → Bool) : (xs.map f).all id = xs.all f := by
  rw [List.all_map]
  rfl
theorem ok_p_are_shares (T : Txt K mg) : FnOk P w K mg base CX0 1 T.f_p_are_shares T.d_p_are_shares ["thing", "many"] (spRow K T.c_Share shOk) := by
  refine T.F_p_are_shares.ok sc_p_are_shares (fun vs H Q E h => ?_) (fun cdv A outer s H vs Q E hr h => ?_)
  · obtain ⟨v, m, r, rfl, _⟩ := h
    rfl
  · obtain ⟨v, m, r, rfl, hv, hlen, q⟩ := h
    refine ⟨_, (pss_one (ps_ret (pe_and (pe_callB call_isi (by rfl) T.z_isinstance (by decide +kernel) (pa_cons (pv 0) (pa_cons (pe_bltn (v := .ty "list") (by rfl) T.z_list (by decide +kernel) rfl) pa_nil))) (pe_and (pe_cmpR op_eq (pe_callB call_len_seq (by rfl) T.z_len (by decide +kernel) (pa_cons (pv 0) pa_nil)) (pv 1) (nomark _)) (pe_one (pe_callB (cr_all rfl) (by rfl) T.z_all (by decide +kernel) (pa_cons (pe_lc (own := [("each", 2)]) (g := (gName 2)) (tt := tYes) (by rfl) sc_p_are_shares.nd (pi_list (pv 0)) (blkOk_by (own := [("each", 2)]) (N := ["thing", "many", "each"]) (sc := defScope s_p_are_shares) (by decide +kernel)) (fun _ _ _ _ _ => by exact (pg_name (i := 2) sc_p_are_shares.nd rfl (.inl rfl))) (fun _ _ _ _ _ => by exact pts_nil) (fun _ _ _ _ _ => by exact (pe_callB (call_isiK (K := K) rfl) (by rfl) T.z_isinstance (by decide +kernel) (pa_cons (pv 2) (pa_cons (pe_glob (v := .ref T.c_Share) (by rfl) T.g_Share rfl) pa_nil))))) pa_nil))))))), ?_⟩
    cases r with
    | none =>
      obtain ⟨t, ty, kt⟩ := hv
      exact ⟨_, rfl, _, _, _, _, false, rfl, .ty _, ty, kt, false, rfl, iteF (q H (Same.refl _))⟩
    | some its =>
      obtain ⟨p, ws, rfl, hp, aa⟩ := hv
      refine ⟨_, rfl, _, _, _, _, true, rfl, .ty _, .base (.lst hp), kit_ty (by decide +kernel), true, rfl, iteT ?_⟩
      refine ⟨_, rfl, p, ws, rfl, .inl (SqL.of hp), _, rfl, rfl, _, rfl, ?_⟩
      by_cases hl : its.length = m
      · rw [decide_eq_true (show V.int (ws.length : Int) = V.int (m : Int) by rw [aa.1, hl])]
        refine iteT ?_
        have l9 := hlen its rfl
        refine ⟨_, rfl, p, rfl, ⟨_, SqL.of hp⟩, fun D nD => lc_all (K := K) (a := p) (xs := ws) (fun i y _ => ∃ o, its[i]? = some o ∧ y = .bl o.isSome) (fun _ _ _ _ _ h => h) nD (SqL.of hp) (by rw [aa.1]; omega) (fun i x H2 k hi s2 _ hk => ?_) (fun H2 ys s2 e l r => ?_)⟩
        · obtain ⟨o, ho, hx⟩ := aa.at hi
          have hx := IsMd.mono (s2.trans hid_same) hx
          refine ⟨rfl, ?_⟩
          cases o with
          | some z =>
            obtain ⟨px, dx, rfl, h7⟩ := hx
            exact ⟨_, rfl, _, _, _, _, true, rfl, .own _, tyShare T h7, T.k_Share, hk _ _ (Same.refl _) ⟨_, ho, rfl⟩⟩
          | none =>
            rcases hx with rfl | rfl | rfl | rfl
            · exact ⟨_, rfl, _, _, _, _, false, rfl, .own _, .base (.int 0), T.k_Share_int, hk _ _ (Same.refl _) ⟨_, ho, rfl⟩⟩
            · exact ⟨_, rfl, _, _, _, _, false, rfl, .own _, .base .non, T.k_Share_NoneType, hk _ _ (Same.refl _) ⟨_, ho, rfl⟩⟩
            · exact ⟨_, rfl, _, _, _, _, false, rfl, .own _, .base (.str _), T.k_Share_str, hk _ _ (Same.refl _) ⟨_, ho, rfl⟩⟩
            · exact ⟨_, rfl, _, _, _, _, false, rfl, .own _, .base (.bl true), T.k_Share_bool, hk _ _ (Same.refl _) ⟨_, ho, rfl⟩⟩
        · have e' := bools_of (xs := its) (by rw [l, aa.1]) r
          rw [e'] at e
          refine ⟨D, its.map Option.isSome, rfl, SqL.of e, ?_⟩
          have := q H2 (s2.trans hid_same)
          rw [all_map_id]
          simpa [onRow, shOk, hl] using this
      · rw [decide_eq_false (show ¬ V.int (ws.length : Int) = V.int (m : Int) from fun z => hl (by have := V.int.inj z; rw [← aa.1]; omega))]
        refine iteF ?_
        have := q H (Same.refl _)
        simpa [onRow, shOk, hl] using this
theorem shOk_all {its : List (Option Rat)} {m : Nat} (h : shOk its m = true) : its.length = m ∧ ∀ o ∈ its, ∃ q, o = some q := by
  unfold shOk at h
  rw [Bool.and_eq_true, List.all_eq_true] at h
  exact ⟨of_decide_eq_true h.1, fun o ho => Option.isSome_iff_exists.mp (h.2 o ho)⟩
def ratsOf (r : Row) : List Rat := (r.getD []).map (·.getD 0)
theorem sh_shares {C : Addr} {H : Hp} {v : V} {r : Row} {k : Nat} (h : IsRw K C H v r) (ok : onRow shOk k r = true) : IsShares C H v (ratsOf r) ∧ (ratsOf r).length = k := by
  cases r with
  | none => cases ok
  | some its =>
    obtain ⟨hl, hall⟩ := shOk_all ok
    obtain ⟨p, vs, rfl, e, a⟩ := h
    refine ⟨⟨p, vs, rfl, e, .of_ix (by simp [ratsOf, a.1]) fun i y hy => ?_⟩, by simp [ratsOf, hl]⟩
    obtain ⟨o, ho, hx⟩ := a.at hy
    obtain ⟨q, rfl⟩ := hall o (List.mem_of_getElem? ho)
    exact ⟨q, by simp [ratsOf, ho], hx⟩
theorem sh_bd {n : Nat} {r : Row} {k : Nat} (ok : onRow shOk k r = true) (h : ∀ its, r = some its → ∀ q, some q ∈ its → Bd n q) : ∀ q ∈ ratsOf r, Bd n q := by
  cases r with
  | none => cases ok
  | some its =>
    obtain ⟨_, hall⟩ := shOk_all ok
    intro q hq
    obtain ⟨o, ho, rfl⟩ := List.mem_map.mp hq
    obtain ⟨z, rfl⟩ := hall o ho
    exact h its rfl z ho
end

end Fb

namespace Fb
open PySem PySem.Spec PyProof.Rows L2
section
variable {P : Program} {w : World} {K : PySem.W.Frag} {mg : Str → Option Value} {base : Heap}
theorem ok_p_are_amounts (T : Txt K mg) : FnOk P w K mg base CX0 2 T.f_p_are_amounts T.d_p_are_amounts ["thing", "many"] (spRow K T.c_Share amOk) := by
  refine T.F_p_are_amounts.ok sc_p_are_amounts (fun vs H Q E h => ?_) (fun cdv A outer s H vs Q E hr h => ?_)
  · obtain ⟨v, m, r, rfl, _⟩ := h
    rfl
  · obtain ⟨v, m, r, rfl, hv, hlen, q⟩ := h
    refine ⟨_, (pss_one (ps_ret (pe_and (pe_call (ok_p_are_shares T) (hr.mono (by decide)) (by rfl) T.g_p_are_shares T.F_p_are_shares.kp T.b_p_are_shares .nil pass0 (pa_cons (pv 0) (pa_cons (pv 1) pa_nil))) (pe_one (pe_callB (cr_all rfl) (by rfl) T.z_all (by decide +kernel) (pa_cons (pe_lc (own := [("share", 2)]) (g := (gName 2)) (tt := tYes) (by rfl) sc_p_are_amounts.nd (pi_list (pv 0)) (blkOk_by (own := [("share", 2)]) (N := ["thing", "many", "share"]) (sc := defScope s_p_are_amounts) (by decide +kernel)) (fun _ _ _ _ _ => by exact (pg_name (i := 2) sc_p_are_amounts.nd rfl (.inl rfl))) (fun _ _ _ _ _ => by exact pts_nil) (fun _ _ _ _ _ => by exact (pe_cmpR op_ge (pe_fldK (K := K) rfl (pv 2) rfl) pe_int (nomark _)))) pa_nil)))))), ?_⟩
    refine ⟨_, rfl, _, rfl, v, m, r, rfl, hv, hlen, fun H1 s1 => ⟨_, rfl, ?_⟩⟩
    cases r with
    | none => exact iteF (q H1 s1)
    | some its =>
      show if shOk its m = true then _ else _
      refine ite2 (fun hs => ?_) (fun hs => ?_)
      · obtain ⟨hl, hall⟩ := shOk_all hs
        obtain ⟨p, ws, rfl, hp, aa⟩ := IsRw.mono s1 hv
        have l9 := hlen its rfl
        refine ⟨_, rfl, p, rfl, ⟨_, SqL.of hp⟩, fun D nD => lc_all (K := K) (a := p) (xs := ws) (fun i y _ => ∃ o, its[i]? = some o ∧ y = .bl (nnOk o)) (fun _ _ _ _ _ h => h) nD (SqL.of hp) (by rw [aa.1]; omega) (fun i x H2 k hi s2 _ hk => ?_) (fun H2 ys s2 e l r => ?_)⟩
        · obtain ⟨o, ho, hx⟩ := aa.at hi
          obtain ⟨z, rfl⟩ := hall o (List.mem_of_getElem? ho)
          obtain ⟨px, dx, rfl, h7⟩ := IsMd.mono (s2.trans hid_same) hx
          refine ⟨rfl, _, rfl, _, _, _, _, _, rfl, h7, T.cl_Share, T.n_Share_top, flds_top _, _, _, rfl, rfl, hk _ _ (Same.refl _) ⟨_, ho, congrArg V.bl (decide_eq_decide.mpr ?_)⟩⟩
          exact Rat.num_nonneg
        · have e' := bools_of (xs := its) (by rw [l, aa.1]) r
          rw [e'] at e
          refine ⟨D, its.map nnOk, rfl, SqL.of e, ?_⟩
          have := q H2 (s1.trans (s2.trans hid_same))
          rw [all_map_id]
          simpa [onRow, amOk, hs] using this
      · have hs : shOk its m = false := by simpa using hs
        have := q H1 s1
        simpa [onRow, amOk, hs] using this
def tabOk (rs : List Row) (m k : Nat) : Bool := decide (rs.length = m) && rs.all (onRow amOk k)
def spTable (K : PySem.W.Frag) (C : Addr) : Sp := fun vs H Q _ => ∃ (v : V) (m k : Nat), vs = [v, .int m, .int k] ∧
  ((NoList K H v ∧ ∀ H', Same H H' → Q (.bl false) H') ∨ ∃ rs : List Row, IsL (IsRw K C) H v rs ∧ rs.length ≤ 900 ∧ (∀ r ∈ rs, ∀ its, r = some its → its.length ≤ 900) ∧ ∀ H', Same H H' → Q (.bl (tabOk rs m k)) H')
theorem ok_p_is_table (T : Txt K mg) : FnOk P w K mg base CX0 3 T.f_p_is_table T.d_p_is_table ["thing", "rows", "columns"] (spTable K T.c_Share) := by
  refine T.F_p_is_table.ok sc_p_is_table (fun vs H Q E h => ?_) (fun cdv A outer s H vs Q E hr h => ?_)
  · obtain ⟨v, m, k, rfl, _⟩ := h
    rfl
  · obtain ⟨v, m, k, rfl, h⟩ := h
    refine ⟨_, (pss_one (ps_ret (pe_and (pe_callB call_isi (by rfl) T.z_isinstance (by decide +kernel) (pa_cons (pv 0) (pa_cons (pe_bltn (v := .ty "list") (by rfl) T.z_list (by decide +kernel) rfl) pa_nil))) (pe_and (pe_cmpR op_eq (pe_callB call_len_seq (by rfl) T.z_len (by decide +kernel) (pa_cons (pv 0) pa_nil)) (pv 1) (nomark _)) (pe_one (pe_callB (cr_all rfl) (by rfl) T.z_all (by decide +kernel) (pa_cons (pe_lc (own := [("row", 3)]) (g := (gName 3)) (tt := tYes) (by rfl) sc_p_is_table.nd (pi_list (pv 0)) (blkOk_by (own := [("row", 3)]) (N := ["thing", "rows", "columns", "row"]) (sc := defScope s_p_is_table) (by decide +kernel)) (fun _ _ _ _ _ => by exact (pg_name (i := 3) sc_p_is_table.nd rfl (.inl rfl))) (fun _ _ _ _ _ => by exact pts_nil) (fun _ _ _ _ _ => by exact (pe_call (ok_p_are_amounts T) (hr.mono (by decide)) (by rfl) T.g_p_are_amounts T.F_p_are_amounts.kp T.b_p_are_amounts .nil pass0 (pa_cons (pv 3) (pa_cons (pv 2) pa_nil))))) pa_nil))))))), ?_⟩
    rcases h with ⟨⟨t, ty, kt⟩, q⟩ | ⟨rs, ⟨p, ws, rfl, hp, aa⟩, l9, hlen, q⟩
    · exact ⟨_, rfl, _, _, _, _, false, rfl, .ty _, ty, kt, false, rfl, iteF (q H (Same.refl _))⟩
    · refine ⟨_, rfl, _, _, _, _, true, rfl, .ty _, .base (.lst hp), kit_ty (by decide +kernel), true, rfl, iteT ?_⟩
      refine ⟨_, rfl, p, ws, rfl, .inl (SqL.of hp), _, rfl, rfl, _, rfl, ?_⟩
      by_cases hl : rs.length = m
      · rw [decide_eq_true (show V.int (ws.length : Int) = V.int (m : Int) by rw [aa.1, hl])]
        refine iteT ?_
        refine ⟨_, rfl, p, rfl, ⟨_, SqL.of hp⟩, fun D nD => lc_all (K := K) (a := p) (xs := ws) (fun i y _ => ∃ o, rs[i]? = some o ∧ y = .bl (onRow amOk k o)) (fun _ _ _ _ _ h => h) nD (SqL.of hp) (by rw [aa.1]; omega) (fun i x H2 kk hi s2 _ hk => ?_) (fun H2 ys s2 e l r => ?_)⟩
        · obtain ⟨o, ho, hx⟩ := aa.at hi
          exact ⟨rfl, _, rfl, _, rfl, _, k, o, rfl, IsRw.mono (s2.trans hid_same) hx, hlen o (List.mem_of_getElem? ho), fun H3 s3 => hk _ _ s3 ⟨_, ho, rfl⟩⟩
        · have e' := bools_of (xs := rs) (by rw [l, aa.1]) r
          rw [e'] at e
          refine ⟨D, rs.map (onRow amOk k), rfl, SqL.of e, ?_⟩
          have := q H2 (s2.trans hid_same)
          rw [all_map_id]
          simpa [tabOk, hl] using this
      · rw [decide_eq_false (show ¬ V.int (ws.length : Int) = V.int (m : Int) from fun z => hl (by have := V.int.inj z; rw [← aa.1]; omega))]
        refine iteF ?_
        have := q H (Same.refl _)
        simpa [tabOk, hl] using this
end

end Fb

namespace Fb
open PySem PySem.Spec PyProof.Rows L2
section
variable {P : Program} {w : World} {K : PySem.W.Frag} {mg : Str → Option Value} {base : Heap}
theorem RcB.imp {X : Cx} {n : Nat} {op : CmpOp} {g : Bool → Bool} {D D' : EqvB} (h : RcB X n op g D) (i : ∀ x y b H, D' x y b H → D x y b H) : RcB X n op g D' := fun A pins s σ H x y u v b sb I rx ry d => h A pins s σ H x y u v b sb I rx ry (i _ _ _ _ d)
def DSh (C : Addr) : EqvB := fun x y b H => ∃ q r, IsShare C H x q ∧ IsShare C H y r ∧ b = decide (q = r)
theorem isShare_inj {C : Addr} {H : Hp} {v : V} {q r : Rat} (h : IsShare C H v q) (h' : IsShare C H v r) : q = r := by
  obtain ⟨p, dx, rfl, h⟩ := h
  obtain ⟨p', dx', e, h'⟩ := h'
  cases e
  rw [h] at h'
  have := HO.ins.inj (Option.some.inj h')
  have e2 := this.2.2
  have t := flds_top q
  rw [e2, flds_top r] at t
  have b := flds_bottom q
  rw [e2, flds_bottom r] at b
  have t := V.int.inj (Option.some.inj t)
  have b := V.int.inj (Option.some.inj b)
  exact Rat.ext t.symm (by omega)
theorem dsh_refl (C : Addr) : Refl (DSh C) := fun x b H d => by
  obtain ⟨q, r, h, h', rfl⟩ := d
  exact decide_eq_true (isShare_inj h h')
theorem dsh_ref (C : Addr) : ∀ x y b H, DSh C x y b H → ∃ a c, x = .ref a ∧ y = .ref c := fun x y b H d => by
  obtain ⟨q, r, ⟨p, _, e, _⟩, ⟨p', _, e', _⟩, _⟩ := d
  exact ⟨p, p', e, e'⟩
theorem dsh_ins (C : Addr) : ∀ x y b H, DSh C x y b H → DInsB C (spEq K C) x y b H := fun x y b H d => by
  obtain ⟨q, r, h, h', rfl⟩ := d
  obtain ⟨p, dx, rfl, e⟩ := id h
  obtain ⟨p', dx', rfl, e'⟩ := id h'
  exact ⟨p, p', _, _, _, _, rfl, rfl, e, e', _, _, q, rfl, h, .inl ⟨r, h', rfl, rfl⟩⟩
theorem dlist_of {C : Addr} {H : Hp} {v u : V} {qs rs : List Rat} (h : IsShares C H v qs) (h' : IsShares C H u rs) (l : qs.length = rs.length) : DListB (DSh C) v u (decide (qs = rs)) H := by
  obtain ⟨p, vs, rfl, e, a⟩ := h
  obtain ⟨p', vs', rfl, e', a'⟩ := h'
  refine ⟨p, p', vs, vs', rfl, rfl, e, e', by rw [a.1, a'.1, l], fun i => decide (at0 qs i = at0 rs i), fun i x y hx hy => ?_, ?_⟩
  · obtain ⟨z, hz, r⟩ := a.at hx
    obtain ⟨z', hz', r'⟩ := a'.at hy
    exact ⟨z, z', r, r', by show decide (at0 qs i = at0 rs i) = _; rw [at0_of hz, at0_of hz']⟩
  · rw [a.1, Bool.eq_iff_iff, decide_eq_true_iff, List.all_eq_true]
    constructor
    · rintro rfl i _
      simp
    · intro hh
      refine List.ext_getElem l fun i h1 h2 => ?_
      have := of_decide_eq_true (hh i (by simpa using h1))
      rw [at0_of (List.getElem?_eq_getElem h1), at0_of (List.getElem?_eq_getElem h2)] at this
      exact this
end

end Fb

namespace Fb
open PySem PySem.Spec PyProof.Rows L2
section
variable {P : Program} {w : World} {K : PySem.W.Frag} {mg : Str → Option Value} {base : Heap}
/-! ### is_plan -/
def planB (rs : List Row) (ps qs : List Rat) : Bool := tabOk rs ps.length qs.length && (decide (rs.map (fun r => rsum (ratsOf r)) = ps) && decide ((List.range qs.length).map (fun y => rsum (rs.map fun r => at0 (ratsOf r) y)) = qs))
def spPlan (K : PySem.W.Frag) (C : Addr) : Sp := fun vs H Q _ => ∃ (v f g : V) (ps qs : List Rat), vs = [v, f, g] ∧ IsShares C H f ps ∧ IsShares C H g qs ∧ ps.length ≤ 12 ∧ qs.length ≤ 12 ∧
  ((NoList K H v ∧ ∀ H', Same H H' → Q (.bl false) H') ∨ ∃ rs : List Row, IsL (IsRw K C) H v rs ∧ rs.length ≤ 900 ∧ (∀ r ∈ rs, ∀ its, r = some its → its.length ≤ 900 ∧ ∀ q, some q ∈ its → Bd 100 q) ∧ ∀ H', Same H H' → Q (.bl (planB rs ps qs)) H')
theorem row_shares {C : Addr} {H : Hp} {v : V} {r : Row} {k : Nat} (h : IsRw K C H v r) (ok : onRow amOk k r = true) : IsShares C H v (ratsOf r) ∧ (ratsOf r).length = k := by
  cases r with
  | none => cases ok
  | some its =>
    have hs : shOk its k = true := by
      have : amOk its k = true := ok
      unfold amOk at this
      exact (Bool.and_eq_true_iff.mp this).1
    obtain ⟨hl, hall⟩ := shOk_all hs
    obtain ⟨p, vs, rfl, e, a⟩ := h
    refine ⟨⟨p, vs, rfl, e, .of_ix (by simp [ratsOf, a.1]) fun i y hy => ?_⟩, by simp [ratsOf, hl]⟩
    obtain ⟨o, ho, hx⟩ := a.at hy
    obtain ⟨q, rfl⟩ := hall o (List.mem_of_getElem? ho)
    exact ⟨q, by simp [ratsOf, ho], hx⟩
theorem row_bd {r : Row} {k : Nat} (ok : onRow amOk k r = true) (h : ∀ its, r = some its → its.length ≤ 900 ∧ ∀ q, some q ∈ its → Bd 100 q) : ∀ q ∈ ratsOf r, Bd 100 q := by
  cases r with
  | none => cases ok
  | some its =>
    intro q hq
    obtain ⟨o, ho, rfl⟩ := List.mem_map.mp hq
    cases o with
    | none => exact ⟨by decide, by decide⟩
    | some z => exact (h its rfl).2 z ho
theorem tabOk_all {rs : List Row} {m k : Nat} (h : tabOk rs m k = true) : rs.length = m ∧ ∀ r ∈ rs, onRow amOk k r = true := by
  unfold tabOk at h
  rw [Bool.and_eq_true, List.all_eq_true] at h
  exact ⟨of_decide_eq_true h.1, h.2⟩
theorem ok_p_is_plan (T : Txt K mg) : FnOk P w K mg base CX0 6 T.f_p_is_plan T.d_p_is_plan ["thing", "first", "second"] (spPlan K T.c_Share) := by
  refine T.F_p_is_plan.ok sc_p_is_plan (fun vs H Q E h => ?_) (fun cdv A outer s H vs Q E hr h => ?_)
  · obtain ⟨v, f, g, ps, qs, rfl, _⟩ := h
    rfl
  · obtain ⟨v, f, g, ps, qs, rfl, hf, hg, m12, k12, h⟩ := h
    refine ⟨_, (pss_cons (ps_if (pt_not (pt_val (pe_call (ok_p_is_table T) (hr.mono (by decide)) (by rfl) T.g_p_is_table T.F_p_is_table.kp T.b_p_is_table .nil pass0 (pa_cons (pv 0) (pa_cons (pe_callB call_len_seq (by rfl) T.z_len (by decide +kernel) (pa_cons (pv 1) pa_nil)) (pa_cons (pe_callB call_len_seq (by rfl) T.z_len (by decide +kernel) (pa_cons (pv 2) pa_nil)) pa_nil))))))
  (pss_one (ps_ret pe_bl))
  pss_nil)
 (pss_cons (ps_setLc (i := 3) (own := [("row", 5)]) (g := (gName 5)) (tt := tYes) (by rfl) sc_p_is_plan.nd rfl rfl (sw_true rfl rfl rfl (by decide +kernel)) (pi_list (pv 0)) (blkOk_by (own := [("row", 5)]) (N := ["thing", "first", "second", "rows", "columns", "row", "at"]) (sc := defScope s_p_is_plan) (by decide +kernel)) (fun _ _ _ _ _ => by exact (pg_name (i := 5) sc_p_is_plan.nd rfl (.inl rfl))) (fun _ _ _ _ _ => by exact pts_nil) (fun _ _ _ _ _ => by exact (pe_call (ok_p_sum_of T) (hr.mono (by decide)) (by rfl) T.g_p_sum_of T.F_p_sum_of.kp T.b_p_sum_of .nil pass0 (pa_cons (pv 5) pa_nil))))
 (pss_cons (ps_setLc (i := 4) (own := [("at", 6)]) (g := (gName 6)) (tt := tYes) (by rfl) sc_p_is_plan.nd rfl rfl (sw_true rfl rfl rfl (by decide +kernel)) (pi_range1 (by rfl) T.z_range (pa_cons (pe_callB call_len_seq (by rfl) T.z_len (by decide +kernel) (pa_cons (pv 2) pa_nil)) pa_nil)) (blkOk_by (own := [("at", 6)]) (N := ["thing", "first", "second", "rows", "columns", "row", "at"]) (sc := defScope s_p_is_plan) (by decide +kernel)) (fun _ _ _ _ _ => by exact (pg_name (i := 6) sc_p_is_plan.nd rfl (.inr rfl))) (fun _ _ _ _ _ => by exact pts_nil) (fun _ _ _ _ _ => by exact (pe_call (ok_p_sum_of T) (hr.mono (by decide)) (by rfl) T.g_p_sum_of T.F_p_sum_of.kp T.b_p_sum_of .nil pass0 (pa_cons (by exact (pe_lc (own := [("row", 5)]) (g := (gName 5)) (tt := tYes) (by rfl) sc_p_is_plan.nd (pi_listK (K := K) rfl (pv 0)) (by exact blkOk_by (own := [("row", 5)]) (by kernel_rfl)) (fun _ _ _ _ _ => by exact (pg_name (i := 5) sc_p_is_plan.nd rfl (.inl rfl))) (fun _ _ _ _ _ => by exact pts_nil) (fun _ _ _ _ _ => by exact (pe_ix (ix_listK (K := K) rfl) (pv 5) (pv 6) (fun _ _ => rfl))))) pa_nil))))
 (pss_one (ps_ret (pe_and (pe_cmpR (op_eqB (rcB_list ((RcB.imp (rcB_ins (C := T.c_Share) (ok_m_Share_eq T) T.h_m_Share_eq.at_ T.h_m_Share_eq.fn T.b_m_Share_eq) (dsh_ins T.c_Share)).eqB (dsh_ref T.c_Share) (dsh_refl T.c_Share))) (hr.mono (by decide))) (pv 3) (pv 1) (nomark _)) (pe_one (pe_cmpR (op_eqB (rcB_list ((RcB.imp (rcB_ins (C := T.c_Share) (ok_m_Share_eq T) T.h_m_Share_eq.at_ T.h_m_Share_eq.fn T.b_m_Share_eq) (dsh_ins T.c_Share)).eqB (dsh_ref T.c_Share) (dsh_refl T.c_Share))) (hr.mono (by decide))) (pv 4) (pv 2) (nomark _))))))))), ?_⟩
    obtain ⟨p1, xs1, rfl, e1, a1⟩ := id hf
    obtain ⟨p2, xs2, rfl, e2, a2⟩ := id hg
    refine ⟨_, rfl, _, rfl, p1, xs1, rfl, .inl (SqL.of e1), _, rfl, p2, xs2, rfl, .inl (SqL.of e2), v, xs1.length, xs2.length, rfl, ?_⟩
    rcases h with ⟨no, q⟩ | ⟨rs, hv, l9, hrow, q⟩
    · exact .inl ⟨no, fun H1 s1 => ⟨false, rfl, iteT (q H1 s1)⟩⟩
    refine .inr ⟨rs, hv, l9, fun r hr its e => (hrow r hr its e).1, fun H1 s1 => ⟨_, rfl, ?_⟩⟩
    rw [a1.1, a2.1]
    cases ht : tabOk rs ps.length qs.length with
    | false =>
      refine iteT ?_
      have := q H1 s1
      unfold planB at this
      rw [ht, Bool.false_and] at this
      exact this
    | true =>
      refine iteF ?_
      obtain ⟨lm, hok⟩ := tabOk_all ht
      obtain ⟨p, ws, rfl, hp, aa⟩ := IsL.mono (R := IsRw K T.c_Share) (fun _ _ _ _ s h => IsRw.mono s h) s1 hv
      have few : ∀ r ∈ rs, Few 100 12 (ratsOf r) := fun r hr => ⟨row_bd (hok r hr) (hrow r hr), by
        cases r with
        | none => exact Nat.zero_le _
        | some its =>
          have := hok _ hr
          have h2 : amOk its qs.length = true := this
          unfold amOk at h2
          have := (shOk_all (Bool.and_eq_true_iff.mp h2).1).1
          simp only [ratsOf, Option.getD_some, List.length_map]
          omega, by decide, by decide, by decide⟩
      refine ⟨_, rfl, p, rfl, ⟨_, SqL.of hp⟩, fun D nD => lc_all (K := K) (a := p) (xs := ws) (fun i y G => ∃ r, rs[i]? = some r ∧ IsShare T.c_Share G y (rsum (ratsOf r))) (fun _ _ _ _ s h => h.elim fun p f => ⟨p, f.1, f.2.mono s⟩) nD (SqL.of hp) (by rw [aa.1]; omega) (fun i x H2 k hi s2 eD hk => ?_) (fun H2 ys s2 e l r => ?_)⟩
      · obtain ⟨o, ho, hx⟩ := aa.at hi
        have om := List.mem_of_getElem? ho
        have hsh := (row_shares hx (hok o om)).1.mono (s2.trans hid_same)
        refine ⟨rfl, _, rfl, _, _, 100, 12, rfl, hsh, few o om, by decide, fun H3 r3 s3 h3 => hk _ _ s3 ⟨o, ho, h3.hidL ?_⟩⟩
        obtain ⟨ys', e'⟩ := eD
        exact ⟨ys', s3 _ _ e'⟩
      · have s12 : Same H1 H2 := s2.trans hid_same
        have rowsS : IsShares T.c_Share H2 (.ref D) (rs.map fun r => rsum (ratsOf r)) := ⟨D, ys, rfl, e, .of_ix (by rw [l, aa.1, List.length_map]) fun i y hy => by
          obtain ⟨o, ho, hs⟩ := r i y hy
          exact ⟨_, by rw [List.getElem?_map, ho]; rfl, hs.mono hid_same⟩⟩
        have hp2 := s12 _ _ hp
        have aa2 : AllAre (IsRw K T.c_Share H2) ws rs := aa.imp fun _ _ h => IsRw.mono s12 h
        refine ⟨_, rfl, p2, xs2, rfl, .inl (SqL.of (s12 _ _ (s1 _ _ e2))), _, rfl, by omega, by rw [a2.1]; omega, fun D3 nD3 => lc_allR (fun j y G => IsShare T.c_Share G y (rsum (rs.map fun r => at0 (ratsOf r) j))) (fun _ _ _ _ s h => h.mono s) nD3 (by rw [Int.toNat_natCast, a2.1]; omega) (fun j H4 kk hj s4 eD hk => ?_) (fun H4 ys4 s4 e4 l4 r4 => ?_)⟩
        · have s24 : Same H2 H4 := s4.trans hid_same
          have hp4 := s24 _ _ hp2
          have aa4 : AllAre (IsRw K T.c_Share H4) ws rs := aa2.imp fun _ _ h => IsRw.mono s24 h
          have hjk : j < qs.length := by rw [Int.toNat_natCast, a2.1] at hj; exact hj
          refine ⟨rfl, _, rfl, p, rfl, ⟨_, SqL.of hp4⟩, fun D5 nD5 => lc_all (K := K) (a := p) (xs := ws) (fun i y G => ∃ r, rs[i]? = some r ∧ IsShare T.c_Share G y (at0 (ratsOf r) j)) (fun _ _ _ _ s h => h.elim fun p f => ⟨p, f.1, f.2.mono s⟩) nD5 (SqL.of hp4) (by rw [aa.1]; omega) (fun i x H6 k6 hi s6 eD6 hk6 => ?_) (fun H6 ys6 s6 e6 l6 r6 => ?_)⟩
          · obtain ⟨o, ho, hx⟩ := aa4.at hi
            have om := List.mem_of_getElem? ho
            obtain ⟨⟨pr, rvs, rfl, er, ar⟩, lr⟩ := row_shares (IsRw.mono (s6.trans hid_same) hx) (hok o om)
            have hjr : j < rvs.length := by rw [ar.1, lr]; exact hjk
            obtain ⟨z, hz, hs⟩ := ar.at (List.getElem?_eq_getElem hjr)
            refine ⟨rfl, _, rfl, _, rfl, pr, rvs, _, _, rfl, rfl, SqL.of er, (by rw [Int.zero_add]; exact atI_nat (List.getElem?_eq_getElem hjr)), hk6 _ _ (Same.refl _) ⟨o, ho, ?_⟩⟩
            rw [at0_of hz]
            exact hs.hidL eD6
          · have s46 : Same H4 H6 := s6.trans hid_same
            refine ⟨_, rs.map (fun r => at0 (ratsOf r) j), 100, 12, rfl, ⟨D5, ys6, rfl, e6, .of_ix (by rw [l6, aa.1, List.length_map]) fun i y hy => ?_⟩, ⟨fun q hq => ?_, by rw [List.length_map]; omega, by decide, by decide, by decide⟩, by decide, fun H7 r7 s7 h7 => hk _ _ (s46.trans s7) (h7.hidL ?_)⟩
            · obtain ⟨o, ho, hs⟩ := r6 i y hy
              exact ⟨_, by rw [List.getElem?_map, ho]; rfl, hs.mono hid_same⟩
            · obtain ⟨o, ho, rfl⟩ := List.mem_map.mp hq
              have : at0 (ratsOf o) j ∈ ratsOf o := by
                refine at0_mem ?_
                obtain ⟨y, hy⟩ := aa.mem ho
                rw [(row_shares hy (hok o ho)).2]
                exact hjk
              exact (few o ho).bd _ this
            · obtain ⟨ys', e'⟩ := eD
              exact ⟨ys', s7 _ _ (s46 _ _ e')⟩
        · have s24 : Same H2 H4 := s4.trans hid_same
          have colsS : IsShares T.c_Share H4 (.ref D3) ((List.range qs.length).map fun y => rsum (rs.map fun r => at0 (ratsOf r) y)) := ⟨D3, ys4, rfl, e4, .of_ix (by rw [l4, Int.toNat_natCast, a2.1]; simp) fun i y hy => by
            have hi := (List.getElem?_eq_some_iff.mp hy).1
            rw [l4, Int.toNat_natCast, a2.1] at hi
            exact ⟨_, by rw [List.getElem?_map, List.getElem?_range hi]; rfl, (r4 i y hy).mono hid_same⟩⟩
          have sA := s1.trans (s12.trans s24)
          refine ⟨_, rfl, _, rfl, _, dlist_of (rowsS.mono s24) (hf.mono sA) (by rw [List.length_map, lm]), _, rfl, ?_⟩
          have fin := q H4 sA
          unfold planB at fin
          rw [ht, Bool.true_and] at fin
          cases hb : decide (rs.map (fun r => rsum (ratsOf r)) = ps) with
          | false =>
            rw [hb] at fin
            exact iteF fin
          | true =>
            rw [hb, Bool.true_and] at fin
            exact iteT ⟨_, rfl, _, rfl, _, dlist_of colsS (hg.mono sA) (by simp), fin⟩
end

end Fb

namespace Fb
open PySem PySem.Spec PyProof.Rows L2
section
variable {P : Program} {w : World} {K : PySem.W.Frag} {mg : Str → Option Value} {base : Heap}
def IsIt (H : Hp) (v : V) : Option Rat → Prop
  | some q => IsPr H v q
  | none => odd v
theorem IsIt.mono {H H' : Hp} {v : V} {o : Option Rat} (s : Same H H') (h : IsIt H v o) : IsIt H' v o := by
  cases o with
  | none => exact h
  | some q => exact IsPr.mono h s
abbrev IsPRow (H : Hp) (v : V) (its : List (Option Rat)) : Prop := IsL IsIt H v its
theorem IsPRow.mono {H H' : Hp} {v : V} {its : List (Option Rat)} (s : Same H H') (h : IsPRow H v its) : IsPRow H' v its := IsL.mono (R := IsIt) (fun _ _ _ _ s h => IsIt.mono s h) s h
theorem odd_ty {H : Hp} {v : V} (h : odd v) : ∃ t, TyX K H v (.type t) ∧ kitB t "tuple" = some false := by
  rcases h with rfl | rfl | rfl | rfl
  · exact ⟨"int", .base (.int 0), by decide +kernel⟩
  · exact ⟨"NoneType", .base .non, by decide +kernel⟩
  · exact ⟨"str", .base (.str _), by decide +kernel⟩
  · exact ⟨"bool", .base (.bl true), by decide +kernel⟩
theorem IsMd.hidL {C : Addr} {H : Hp} {D : Addr} {v : V} {o : Option Rat} (e : ∃ ys, H D = some (.lst ys)) (h : IsMd C H v o) : IsMd C (Fb.hid D H) v o := by
  cases o with
  | none => exact h
  | some q => exact IsShare.hidL e h
structure RwAt (H : Hp) (a : Addr) (f : Nat) (pr : Addr) (its : List (Option Rat)) (H' : Hp) : Prop where
  new : H pr = none
  ne : pr ≠ a
  at_ : ∃ vs, H' pr = some (.lst vs) ∧ AllAre (IsIt H') vs its
  same : Same (hid a H) (hid a H')
  well : WellAt H' a f
theorem IsIt.ts {H H' : Hp} {v : V} {o : Option Rat} (s : TS H H') (h : IsIt H v o) : IsIt H' v o := by
  cases o with
  | none => exact h
  | some q => exact IsPr.ts h s
theorem RwAt.keep {H : Hp} {a : Addr} {f f' : Nat} {pr : Addr} {its : List (Option Rat)} {H1 H2 : Hp} (R : RwAt H a f pr its H1) (s : Same (hid a H1) (hid a H2)) (w : WellAt H2 a f') : RwAt H a f' pr its H2 := by
  obtain ⟨vs, e, r⟩ := R.at_
  have t := TS.well R.well s
  refine ⟨R.new, R.ne, ⟨vs, ?_, r.imp fun _ _ h => h.ts t⟩, R.same.trans s, w⟩
  have := s pr _ (by rw [hid_ne R.ne]; exact e)
  rwa [hid_ne R.ne] at this
theorem AllAre.set {α : Type} {R : V → α → Prop} {vs : List V} {xs : List α} {j : Nat} {v : V} {x : α} (h : AllAre R vs xs) (r : R v x) : AllAre R (vs.set j v) (xs.set j x) := by
  refine ⟨by simp [h.1], fun i a b h1 h2 => ?_⟩
  rw [List.getElem?_set] at h1 h2
  by_cases e : j = i
  · subst e
    rw [if_pos rfl] at h1 h2
    split at h1
    · split at h2
      · cases h1
        cases h2
        exact r
      · cases h2
    · cases h1
  · rw [if_neg e] at h1 h2
    exact h.2 i a b h1 h2
theorem RwAt.set {H : Hp} {a : Addr} {f : Nat} {pr : Addr} {its : List (Option Rat)} {H1 : Hp} (R : RwAt H a f pr its H1) {vs : List V} {j : Nat} {v : V} {o : Option Rat} (e : H1 pr = some (.lst vs)) (hv : IsIt H1 v o) : RwAt H a f pr (its.set j o) (upd H1 pr (.lst (vs.set j v))) := by
  obtain ⟨vs', e', r⟩ := R.at_
  rw [e] at e'
  cases e'
  have t : TS H1 (upd H1 pr (.lst (vs.set j v))) := TS.lst e
  refine ⟨R.new, R.ne, ⟨_, upd_same, (AllAre.set r hv).imp fun _ _ h => h.ts t⟩, fun b u eb => ?_, R.well.upd R.ne⟩
  have hb : b ≠ pr := fun z => by
    rw [z, hid_ne R.ne, R.new] at eb
    cases eb
  rw [hid_updN R.ne, upd_ne hb]
  exact R.same b u eb
def ItB (n l : Nat) (its : List (Option Rat)) : Prop := its.length ≤ l ∧ ∀ q, some q ∈ its → Bd n q
theorem ItB.set {n n' l : Nat} {its : List (Option Rat)} {j : Nat} {o : Option Rat} (h : ItB n l its) (hn : n ≤ n') (ho : ∀ q, o = some q → Bd n' q) : ItB n' l (its.set j o) := by
  refine ⟨by rw [List.length_set]; exact h.1, fun q hq => ?_⟩
  rcases List.mem_or_eq_of_mem_set hq with e | e
  · exact (h.2 q e).mono hn
  · exact ho q e.symm
theorem ItB.mono {n n' l l' : Nat} {its : List (Option Rat)} (h : ItB n l its) (hn : n ≤ n') (hl : l ≤ l') : ItB n' l' its := ⟨Nat.le_trans h.1 hl, fun q hq => (h.2 q hq).mono hn⟩
theorem ixn {l : List V} {j : Nat} (hj : j < l.length) : ixN l.length (j : Int) = some j := by
  unfold ixN
  rw [if_pos (by omega), if_pos (by omega), Int.toNat_natCast]
theorem RwAt.get {H : Hp} {a : Addr} {f : Nat} {pr : Addr} {its : List (Option Rat)} {H1 : Hp} (R : RwAt H a f pr its H1) {j : Nat} (hj : j < its.length) : ∃ vs v o, H1 pr = some (.lst vs) ∧ vs.length = its.length ∧ vs[j]? = some v ∧ its[j]? = some o ∧ IsIt H1 v o := by
  obtain ⟨vs, e, r⟩ := R.at_
  have hj' : j < vs.length := by rw [r.1]; exact hj
  obtain ⟨o, ho, h⟩ := r.at (List.getElem?_eq_getElem hj')
  exact ⟨vs, _, o, e, r.1, List.getElem?_eq_getElem hj', ho, h⟩
theorem RwAt.app {H : Hp} {a : Addr} {f : Nat} {pr : Addr} {its : List (Option Rat)} {H1 : Hp} (R : RwAt H a f pr its H1) {vs : List V} {v : V} {o : Option Rat} (e : H1 pr = some (.lst vs)) (hv : IsIt H1 v o) : RwAt H a f pr (its ++ [o]) (upd H1 pr (.lst (vs ++ [v]))) := by
  obtain ⟨vs', e', r⟩ := R.at_
  rw [e] at e'
  cases e'
  have t : TS H1 (upd H1 pr (.lst (vs ++ [v]))) := TS.lst e
  refine ⟨R.new, R.ne, ⟨_, upd_same, (r.snoc hv).imp fun _ _ h => h.ts t⟩, fun b u eb => ?_, R.well.upd R.ne⟩
  have hb : b ≠ pr := fun z => by
    rw [z, hid_ne R.ne, R.new] at eb
    cases eb
  rw [hid_updN R.ne, upd_ne hb]
  exact R.same b u eb
end

end Fb

namespace Fb
open PySem PySem.Spec PyProof.Rows L2
section
variable {P : Program} {w : World} {K : PySem.W.Frag} {mg : Str → Option Value} {base : Heap}
/-! ### plans of pairs, and of what is none -/
abbrev IsPl (H : Hp) (v : V) (rows : List (List (Option Rat))) : Prop := IsL IsPRow H v rows
theorem IsPl.mono {H H' : Hp} {v : V} {rows : List (List (Option Rat))} (s : Same H H') (h : IsPl H v rows) : IsPl H' v rows := IsL.mono (R := IsPRow) (fun _ _ _ _ s h => IsPRow.mono s h) s h
structure PB (n l : Nat) (rows : List (List (Option Rat))) : Prop where
  len : rows.length ≤ l
  row : ∀ its ∈ rows, its.length ≤ l ∧ ∀ q, some q ∈ its → Bd n q
/-! ### shares in the place of pairs -/
def spMade (C : Addr) : Sp := fun vs H Q _ => ∃ (v : V) (rows : List (List (Option Rat))), vs = [v] ∧ IsPl H v rows ∧ PB 9000 900 rows ∧ ∀ H' p, H p = none → Same H H' → IsL (fun H v its => IsL (IsMd C) H v its) H' (.ref p) rows → Q (.ref p) H'
theorem ok_l_made (T : Txt K mg) : FnOk P w K mg base CX0 4 T.f_l_made T.d_l_made ["_law_plan"] (spMade T.c_Share) := by
  refine T.F_l_made.ok sc_l_made (fun vs H Q E h => ?_) (fun cdv A outer s H vs Q E hr h => ?_)
  · obtain ⟨v, rows, rfl, _⟩ := h
    rfl
  · obtain ⟨v, rows, rfl, ⟨p, ws, rfl, hp, aa⟩, pb, q⟩ := h
    refine ⟨_, (pss_one (ps_ret (pe_lc (own := [("_law_row", 1)]) (g := (gName 1)) (tt := tYes) (by rfl) sc_l_made.nd (pi_list (pv 0)) (blkOk_by (own := [("_law_row", 1)]) (N := ["_law_plan", "_law_row", "_law_one_here"]) (sc := defScope s_l_made) (by decide +kernel)) (fun _ _ _ _ _ => by exact (pg_name (i := 1) sc_l_made.nd rfl (.inl rfl))) (fun _ _ _ _ _ => by exact pts_nil) (fun _ _ _ _ _ => by exact (by exact (pe_lc (own := [("_law_one_here", 2)]) (g := (gName 2)) (tt := tYes) (by rfl) sc_l_made.nd (pi_listK (K := K) rfl (pv 1)) (by exact blkOk_by (own := [("_law_one_here", 2)]) (by kernel_rfl)) (fun _ _ _ _ _ => by exact (pg_name (i := 2) sc_l_made.nd rfl (.inl rfl))) (fun _ _ _ _ _ => by exact pts_nil) (fun _ _ _ _ _ => by exact (pe_ifExp (pt_val (pe_callB (call_isiK (K := K) rfl) (by rfl) T.z_isinstance (by decide +kernel) (pa_cons (pv 2) (pa_cons (pe_bltn (v := .ty "tuple") (by rfl) T.z_tuple (by decide +kernel) rfl) pa_nil)))) (pe_make T.M_Share (ok_m_Share_init T) (hr.mono (by decide)) (by rfl) T.g_Share T.b_m_Share_init .nil pass0 (pa_cons (pe_ix (ix_tupK (K := K) rfl) (pv 2) pe_int (fun _ _ => rfl)) (pa_cons (pe_ix (ix_tupK (K := K) rfl) (pv 2) pe_int (fun _ _ => rfl)) pa_nil))) (pv 2))))))))), ?_⟩
    refine ⟨_, rfl, p, rfl, ⟨_, SqL.of hp⟩, fun D nD => lc_all (K := K) (a := p) (xs := ws) (fun i y G => ∃ its, rows[i]? = some its ∧ IsL (IsMd T.c_Share) G y its) (fun _ _ _ _ s h => h.elim fun p f => ⟨p, f.1, IsL.mono (R := IsMd T.c_Share) (fun _ _ _ _ s h => IsMd.mono s h) s f.2⟩) nD (SqL.of hp) (by have := pb.len; rw [aa.1]; omega) (fun i x H2 k hi s2 eD hk => ?_) (fun H2 ys s2 e l r => ?_)⟩
    · obtain ⟨its, hits, hx⟩ := aa.at hi
      obtain ⟨pr, rvs, rfl, er, ar⟩ := IsPRow.mono (s2.trans hid_same) hx
      have pr1 := pb.row its (List.mem_of_getElem? hits)
      refine ⟨rfl, _, rfl, pr, rfl, ⟨_, SqL.of er⟩, fun D5 nD5 => lc_all (K := K) (a := pr) (xs := rvs) (fun i y G => ∃ o, its[i]? = some o ∧ IsMd T.c_Share G y o) (fun _ _ _ _ s h => h.elim fun p f => ⟨p, f.1, f.2.mono s⟩) nD5 (SqL.of er) (by rw [ar.1]; omega) (fun i x H6 k6 hi s6 eD6 hk6 => ?_) (fun H6 ys6 s6 e6 l6 r6 => ?_)⟩
      · obtain ⟨o, ho, hx⟩ := ar.at hi
        have hx := IsIt.mono (s6.trans hid_same) hx
        refine ⟨rfl, ?_⟩
        cases o with
        | some z =>
          obtain ⟨pt, rfl, ht⟩ := hx
          have bz := pr1.2 z (List.mem_of_getElem? ho)
          refine ⟨_, rfl, _, _, _, _, true, rfl, .ty _, .base (.tup ht), kit_ty (by decide +kernel), true, rfl, iteT ?_⟩
          refine ⟨_, rfl, pt, _, _, _, rfl, rfl, .inl (.inl ht), atI_nat (j := 0) rfl, _, rfl, pt, _, _, _, rfl, rfl, .inl (.inl ht), atI_nat (j := 1) rfl, ?_⟩
          refine mk_share (den_ne z) (log_of (by decide) (den_abs bz) (by decide)) fun H7 r7 s7 h7 => ?_
          rw [divInt_self] at h7
          refine hk6 _ _ s7 ⟨_, ho, IsMd.hidL (o := some z) ?_ h7⟩
          obtain ⟨ys', e'⟩ := eD6
          exact ⟨ys', s7 _ _ e'⟩
        | none =>
          obtain ⟨t, ty, kt⟩ := odd_ty (K := K) (H := H6) hx
          exact ⟨_, rfl, _, _, _, _, false, rfl, .ty _, ty, kit_ty kt, false, rfl, iteF ⟨_, rfl, hk6 _ _ (Same.refl _) ⟨_, ho, hx⟩⟩⟩
      · have s26 : Same H2 H6 := s6.trans hid_same
        have nD : D5 ≠ D := fun z => by
          obtain ⟨ys', e'⟩ := eD
          rw [z, e'] at nD5
          cases nD5
        have eD6 : ∃ ys, H6 D = some (.lst ys) := by
          obtain ⟨ys', e'⟩ := eD
          exact ⟨ys', s26 _ _ e'⟩
        refine hk _ _ s26 ⟨its, hits, D5, ys6, rfl, by rw [hid_ne nD]; exact e6, .of_ix (by rw [l6, ar.1]) fun i y hy => ?_⟩
        obtain ⟨o, ho, hs⟩ := r6 i y hy
        exact ⟨o, ho, (hs.mono hid_same).hidL eD6⟩
    · refine q H2 D nD (s2.trans hid_same) ⟨D, ys, rfl, e, .of_ix (by rw [l, aa.1]) fun i y hy => ?_⟩
      obtain ⟨its, hits, hs⟩ := r i y hy
      exact ⟨its, hits, IsL.mono (R := IsMd T.c_Share) (fun _ _ _ _ s h => IsMd.mono s h) hid_same hs⟩
end

end Fb

namespace Fb
open PySem PySem.Spec PyProof.Rows L2
section
variable {P : Program} {w : World} {K : PySem.W.Frag} {mg : Str → Option Value} {base : Heap}
/-! ### a plan with one thing otherwise -/
def spOther : Sp := fun vs H Q _ => ∃ (a : Addr) (v : V) (rows : List (List (Option Rat))) (n l f : Nat), vs = [.ref a, v] ∧ WellAt H a (f + 6) ∧ IsPl (hid a H) v rows ∧ PB n l rows ∧ rows ≠ [] ∧ (∀ its ∈ rows, its ≠ []) ∧ n ≤ 60 ∧ l ≤ 60 ∧
  ∀ H' u rows', Same (hid a H) (hid a H') → WellAt H' a f → IsPl (hid a H') u rows' → PB (n + 20) (l + 1) rows' → Q u H'
theorem ok_l_otherwise (T : Txt K mg) : FnOk P w K mg base CX0 4 T.f_l_otherwise T.d_l_otherwise ["_law_well_here", "_law_plan"] spOther := by
  refine T.F_l_otherwise.ok sc_l_otherwise (fun vs H Q E h => ?_) (fun cdv A outer s H vs Q E hr h => ?_)
  · obtain ⟨a, v, rows, n, l, f, rfl, _⟩ := h
    rfl
  · obtain ⟨a, v, rows, n, l, f, rfl, hw, hv, pb, hne, hrne, n60, l60, q⟩ := h
    refine ⟨_, (pss_cons (ps_set (i := 2) sc_l_otherwise.nd rfl (.inl rfl) (pe_call (ok_l_draw T) (hr.mono (by decide)) (by rfl) T.g_l_draw T.F_l_draw.kp T.b_l_draw .nil pass0 (pa_cons (pv 0) (pa_cons (pe_callB call_len_seq (by rfl) T.z_len (by decide +kernel) (pa_cons (pv 1) pa_nil)) pa_nil))))
 (pss_cons (ps_set (i := 3) sc_l_otherwise.nd rfl (.inl rfl) (pe_callTy call_list_of (by rfl) T.z_list (by decide +kernel) (pa_cons (pe_ix ix_list (pv 1) (pv 2) (fun _ _ => rfl)) pa_nil)))
 (pss_cons (ps_set (i := 4) sc_l_otherwise.nd rfl (.inl rfl) (pe_call (ok_l_draw T) (hr.mono (by decide)) (by rfl) T.g_l_draw T.F_l_draw.kp T.b_l_draw .nil pass0 (pa_cons (pv 0) (pa_cons (pe_callB call_len_seq (by rfl) T.z_len (by decide +kernel) (pa_cons (pv 3) pa_nil)) pa_nil))))
 (pss_cons (ps_set (i := 5) sc_l_otherwise.nd rfl (.inl rfl) (pe_call (ok_l_draw T) (hr.mono (by decide)) (by rfl) T.g_l_draw T.F_l_draw.kp T.b_l_draw .nil pass0 (pa_cons (pv 0) (pa_cons pe_int pa_nil))))
 (pss_cons (ps_if (PW.pt (pw_and (pt_cmpR op_in_seq (pv 5) (pe_tup (pa_cons pe_int (pa_cons pe_int pa_nil))) (by with_unfolding_all rfl)) (pw_and1 (pt_cmpR (op_neNil hr.units0) (pe_lc (own := [("_law_one_here", 7)]) (g := (gName 7)) (tt := _) (by rfl) sc_l_otherwise.nd (pi_list (pv 3)) (blkOk_by (own := [("_law_one_here", 7)]) (N := ["_law_well_here", "_law_plan", "_law_at", "_law_row", "_law_to", "_law_pick", "_law_other", "_law_one_here"]) (sc := defScope s_l_otherwise) (by decide +kernel)) (fun _ _ _ _ _ => by exact (pg_name (i := 7) sc_l_otherwise.nd rfl (.inl rfl))) (fun _ _ _ _ _ => by exact (pts_one (pt_not (pt_val (pe_callB (call_isiK (K := K) rfl) (by rfl) T.z_isinstance (by decide +kernel) (pa_cons (pv 7) (pa_cons (pe_bltn (v := .ty "tuple") (by rfl) T.z_tuple (by decide +kernel) rfl) pa_nil))))))) (fun _ _ _ _ _ => by exact (pv 7))) (pe_lst pa_nil) (nomark _)))))
  (pss_one (ps_ret (pe_revL (pv 1))))
  pss_nil)
 (pss_cons (ps_if (pt_cmpR op_eq (pv 5) pe_int (nomark _))
  (pss_one (ps_asg (pe_call (ok_l_added T) (hr.mono (by decide)) (by rfl) T.g_l_added T.F_l_added.kp T.b_l_added .nil pass0 (pa_cons (pe_ix ix_list (pv 3) (pv 4) (fun _ _ => rfl)) (pa_cons (pe_call (ok_l_one T) (hr.mono (by decide)) (by rfl) T.g_l_one T.F_l_one.kp T.b_l_one .nil pass0 (pa_cons (pv 0) (pa_cons (pe_lst (pa_cons (pe_tup (pa_cons pe_int (pa_cons pe_int pa_nil))) (pa_cons (pe_tup (pa_cons (pe_un un_neg pe_int) (pa_cons pe_int pa_nil))) (pa_cons (pe_tup (pa_cons (pe_un un_neg pe_int) (pa_cons pe_int pa_nil))) (pa_cons (pe_tup (pa_cons pe_int (pa_cons pe_int pa_nil))) pa_nil))))) pa_nil))) pa_nil))) (pg_sub (pv 3) (pv 4) set_list)))
  (pss_one (ps_if (pt_cmpR op_eq (pv 5) pe_int (nomark _))
  (pss_cons (ps_set (i := 6) sc_l_otherwise.nd rfl (.inl rfl) (pe_call (ok_l_draw T) (hr.mono (by decide)) (by rfl) T.g_l_draw T.F_l_draw.kp T.b_l_draw .nil pass0 (pa_cons (pv 0) (pa_cons (pe_callB call_len_seq (by rfl) T.z_len (by decide +kernel) (pa_cons (pv 3) pa_nil)) pa_nil))))
 (pss_one (ps_asg (pe_tup (pa_cons (pe_ix ix_list (pv 3) (pv 6) (fun _ _ => rfl)) (pa_cons (pe_ix ix_list (pv 3) (pv 4) (fun _ _ => rfl)) pa_nil))) (pg_tup (by rfl) (pgs_cons (pg_sub (pv 3) (pv 4) set_list) (pgs_cons (pg_sub (pv 3) (pv 6) set_list) pgs_nil))))))
  (pss_one (ps_if (pt_cmpR op_eq (pv 5) pe_int (nomark _))
  (pss_cons (ps_set (i := 6) sc_l_otherwise.nd rfl (.inl rfl) (pe_call (ok_l_draw T) (hr.mono (by decide)) (by rfl) T.g_l_draw T.F_l_draw.kp T.b_l_draw .nil pass0 (pa_cons (pv 0) (pa_cons (pe_callB call_len_seq (by rfl) T.z_len (by decide +kernel) (pa_cons (pv 3) pa_nil)) pa_nil))))
 (pss_cons (ps_asg (pe_call (ok_l_added T) (hr.mono (by decide)) (by rfl) T.g_l_added T.F_l_added.kp T.b_l_added .nil pass0 (pa_cons (pe_ix ix_list (pv 3) (pv 4) (fun _ _ => rfl)) (pa_cons (pe_tup (pa_cons (pe_un un_neg pe_int) (pa_cons pe_int pa_nil))) pa_nil))) (pg_sub (pv 3) (pv 4) set_list))
 (pss_one (ps_asg (pe_call (ok_l_added T) (hr.mono (by decide)) (by rfl) T.g_l_added T.F_l_added.kp T.b_l_added .nil pass0 (pa_cons (pe_ix ix_list (pv 3) (pv 6) (fun _ _ => rfl)) (pa_cons (pe_tup (pa_cons pe_int (pa_cons pe_int pa_nil))) pa_nil))) (pg_sub (pv 3) (pv 6) set_list)))))
  (pss_one (ps_if (pt_cmpR op_eq (pv 5) pe_int (nomark _))
  (pss_one (ps_asg (pe_call (ok_l_one T) (hr.mono (by decide)) (by rfl) T.g_l_one T.F_l_one.kp T.b_l_one .nil pass0 (pa_cons (pv 0) (pa_cons (pe_lst (pa_cons pe_int (pa_cons pe_non (pa_cons pe_str (pa_cons pe_bl pa_nil))))) pa_nil))) (pg_sub (pv 3) (pv 4) set_list)))
  (pss_one (ps_if (pt_cmpR op_eq (pv 5) pe_int (nomark _))
  (pss_one (ps_set (i := 3) sc_l_otherwise.nd rfl (.inl rfl) (pe_call (ok_l_one T) (hr.mono (by decide)) (by rfl) T.g_l_one T.F_l_one.kp T.b_l_one .nil pass0 (pa_cons (pv 0) (pa_cons (pe_lst (pa_cons (pe_slice sl_list (pv 3) (po_some pe_int) po_none) (pa_cons (pe_op op_cat (pv 3) (pe_lst (pa_cons (pe_tup (pa_cons pe_int (pa_cons pe_int pa_nil))) pa_nil))) pa_nil))) pa_nil)))))
  (pss_one (ps_if (pt_cmpR op_eq (pv 5) pe_int (nomark _))
  (pss_one (ps_ret (pe_call (ok_l_one T) (hr.mono (by decide)) (by rfl) T.g_l_one T.F_l_one.kp T.b_l_one .nil pass0 (pa_cons (pv 0) (pa_cons (pe_lst (pa_cons (pe_slice sl_list (pv 1) (po_some pe_int) po_none) (pa_cons (pe_op op_cat (pv 1) (pe_lst (pa_cons (pv 3) pa_nil))) (pa_cons (pe_revL (pv 1)) pa_nil)))) pa_nil)))))
  pss_nil)))))))))))
 (pss_one (ps_ret (pe_op op_cat (pe_op op_cat (pe_slice sl_list (pv 1) po_none (po_some (pv 2))) (pe_lst (pa_cons (pv 3) pa_nil))) (pe_slice sl_list (pv 1) (po_some (pe_op op_add (pv 2) pe_int)) po_none)))))))))), ?_⟩
    obtain ⟨p, ws, rfl, hp, aa⟩ := id hv
    have sq : ∀ {H'}, Same (hid a H) (hid a H') → SqL K H' p ws := fun s => (s.trans hid_same).seq (SqL.of hp)
    have lw : ws.length = rows.length := aa.1
    have l1 := pb.len
    have r0 : 0 < rows.length := List.length_pos_iff.mpr hne
    refine ⟨_, rfl, _, rfl, p, ws, rfl, .inl (sq (Same.refl _)), a, (ws.length : Nat), f + 5, rfl, hw, by omega, log_small (by omega), fun d H1 d0 d1 s1 w1 => ?_⟩
    have hd : d.toNat < ws.length := by omega
    have hdr : d.toNat < rows.length := by omega
    have ed : d = ((d.toNat : Nat) : Int) := by omega
    generalize d.toNat = k at hd hdr ed
    subst ed
    obtain ⟨its0, hits0, hx0⟩ := aa.at (List.getElem?_eq_getElem hd)
    have m0 := List.mem_of_getElem? hits0
    obtain ⟨pr0, rvs, er0, hpr0, ar0⟩ := hx0
    have sq0 : SqL K H1 pr0 rvs := (s1.trans hid_same).seq (SqL.of hpr0)
    refine ⟨_, rfl, _, rfl, p, _, _, _, rfl, rfl, sq s1, atI_nat (List.getElem?_eq_getElem hd), ?_⟩
    rw [er0]
    refine ⟨pr0, rvs, rfl, .inl sq0, fun pr npr => ?_⟩
    obtain ⟨w2, s2⟩ := well_new (o := .lst rvs) w1 npr
    have R2 : RwAt H a (f + 5) pr its0 (upd H1 pr (.lst rvs)) := ⟨none_back s1 w1 npr, w1.ne npr, ⟨rvs, upd_same, ar0.imp fun _ _ h => IsIt.mono (s1.trans (s2.trans hid_same)) h⟩, s1.trans s2, w2⟩
    generalize upd H1 pr (.lst rvs) = H2 at *
    have b0 : ItB n l its0 := pb.row its0 m0
    have i0 : 0 < its0.length := List.length_pos_iff.mpr (hrne its0 m0)
    obtain ⟨vs2, e2, r2⟩ := R2.at_
    have lv2 : vs2.length = its0.length := r2.1
    refine ⟨_, rfl, _, rfl, pr, vs2, rfl, .inl (SqL.of e2), a, (vs2.length : Nat), f + 4, rfl, R2.well, by omega, log_small (by have := b0.1; omega), fun t H3 t0 t1 s3 w3 => ?_⟩
    have R3 := R2.keep s3 w3
    have ht : t.toNat < its0.length := by omega
    have et : t = ((t.toNat : Nat) : Int) := by omega
    generalize t.toNat = to at ht et
    subst et
    refine ⟨_, rfl, a, 7, f + 3, rfl, R3.well, by decide, log_small (m := 7) (by decide), fun pick H4 k0 k7 s4 w4 => ?_⟩
    have R4 := R3.keep s4 w4
    -- turned about
    dsimp only [gName]
    refine seq_fin (t := tIfS _ _ _) (fun σ H' => ∃ z7, σ = [some (.ref a), some (.ref p), some (.int k), some (.ref pr), some (.int to), some (.int pick), none, z7] ∧ RwAt H a (f + 3) pr its0 H' ∧ (pick = 0 ∨ pick = 2 → ∀ o ∈ its0, ∃ q, o = some q)) (fun σ H' h => ?_) (fun fin => ?_)
    · obtain ⟨z7, rfl, R, hall⟩ := h
      clear R4 R3 R2
      have fwd : ∀ {G : Hp}, Same (hid a H) (hid a G) → AllAre (IsPRow (hid a G)) ws rows := fun s => aa.imp fun _ _ h => IsPRow.mono s h
      refine seq_fin (t := tIfS _ _ _) (fun σ H' => ∃ pr its z6 z7, σ = [some (.ref a), some (.ref p), some (.int k), some (.ref pr), some (.int to), some (.int pick), z6, z7] ∧ RwAt H a f pr its H' ∧ ItB (n + 20) (l + 1) its) (fun σ H' h => ?_) (fun fin => ?_)
      · obtain ⟨pr, its, z6, z7, rfl, R, ib⟩ := h
        refine ⟨_, rfl, _, rfl, (k : Int), rfl, p, ws, rfl, sq R.same, fun c1 n1 => ?_⟩
        obtain ⟨w1', s1'⟩ := well_new (o := .lst (cutV ws none (some (k : Int)))) R.well n1
        have R1 := R.keep s1' w1'
        refine ⟨_, rfl, by show 1 ≤ sizeLine; decide, fun c2 n2 => ?_⟩
        have e1 : (upd (upd H' c1 (.lst (cutV ws none (some (k : Int))))) c2 (.lst [.ref pr])) c1 = some (.lst (cutV ws none (some (k : Int)))) := same_upd n2 _ _ upd_same
        obtain ⟨w2', s2'⟩ := well_new (o := .lst [.ref pr]) w1' n2
        have R2 := R1.keep s2' w2'
        rw [cut_to (by omega)] at *
        refine ⟨c1, c2, _, _, rfl, rfl, e1, upd_same, Nat.le_of_lt (small1000 (by rw [List.length_take]; simp; omega)), fun c3 n3 => ?_⟩
        obtain ⟨w3', s3'⟩ := well_new (o := .lst (ws.take k ++ [.ref pr])) w2' n3
        have R3 := R2.keep s3' w3'
        have e3 := upd_same (H := upd (upd H' c1 (.lst (ws.take k))) c2 (.lst [.ref pr])) (a := c3) (o := .lst (ws.take k ++ [.ref pr]))
        generalize upd (upd (upd H' c1 (.lst (ws.take k))) c2 (.lst [.ref pr])) c3 (.lst (ws.take k ++ [.ref pr])) = H3' at *
        refine ⟨_, rfl, _, rfl, _, _, rfl, rfl, (k : Int) + 1, rfl, p, ws, rfl, sq R3.same, fun c4 n4 => ?_⟩
        have ek : (k : Int) + 1 = ((k + 1 : Nat) : Int) := by omega
        rw [ek, cut_from (by omega)]
        obtain ⟨w4', s4'⟩ := well_new (o := .lst (ws.drop (k + 1))) w3' n4
        have R4 := R3.keep s4' w4'
        refine ⟨c3, c4, _, _, rfl, rfl, same_upd n4 _ _ e3, upd_same, Nat.le_of_lt (small1000 (by rw [List.length_append, List.length_take, List.length_drop]; simp; omega)), fun c5 n5 => ?_⟩
        obtain ⟨w5', s5'⟩ := well_new (o := .lst ((ws.take k ++ [.ref pr]) ++ ws.drop (k + 1))) w4' n5
        have R5 := R4.keep s5' w5'
        obtain ⟨vs5, e5, r5⟩ := R5.at_
        have rowI : IsPRow (hid a (upd (upd H3' c4 (.lst (ws.drop (k + 1)))) c5 (.lst ((ws.take k ++ [.ref pr]) ++ ws.drop (k + 1))))) (.ref pr) its := ⟨pr, vs5, rfl, by rw [hid_ne R5.ne]; exact e5, r5.imp fun v o h => by
          cases o with
          | none => exact h
          | some q => exact IsTup2.hid R5.well h⟩
        refine q _ _ (rows.take k ++ [its] ++ rows.drop (k + 1)) R5.same R5.well ⟨c5, _, rfl, by rw [hid_updN (w4'.ne n5)]; exact upd_same, ((fwd R5.same).take k).append (.cons rowI .nil) |>.append ((fwd R5.same).drop (k + 1))⟩ ⟨?_, fun i hi => ?_⟩
        · simp only [List.length_append, List.length_take, List.length_drop, List.length_cons, List.length_nil]
          omega
        · rcases List.mem_append.mp hi with hi | hi
          · rcases List.mem_append.mp hi with hi | hi
            · have := pb.row i (List.mem_of_mem_take hi)
              exact ⟨by omega, fun q hq => (this.2 q hq).mono (by omega)⟩
            · have : i = its := by simpa using hi
              subst this
              exact ib
          · have := pb.row i (List.mem_of_mem_drop hi)
            exact ⟨by omega, fun q hq => (this.2 q hq).mono (by omega)⟩
      · obtain ⟨vs, ev, rv⟩ := R.at_
        have lv : vs.length = its0.length := rv.1
        have l0 := b0.1
        have W4 : ∀ {z : Rat}, Bd n z → z.num.natAbs < 2 ^ 4000 ∧ (z.den : Int).natAbs < 2 ^ 4000 := fun h => ⟨up h.num (by omega), up (den_abs h) (by omega)⟩
        have keepB : ∀ {its}, ItB n l its → ItB (n + 20) (l + 1) its := fun h => h.mono (by omega) (by omega)
        refine ⟨_, rfl, rfl, _, rfl, ite2 (fun hb => ?_) (fun hb => ?_)⟩
        · -- a little more or less
          have hp0 : pick = 0 := V.int.inj (of_decide_eq_true hb)
          obtain ⟨_, v1, o, ev', _, gv, go, iv⟩ := R.get ht
          rw [ev] at ev'
          cases ev'
          obtain ⟨z, rfl⟩ := hall (.inl hp0) o (List.mem_of_getElem? go)
          have bz := b0.2 z (List.mem_of_getElem? go)
          refine ⟨_, rfl, _, rfl, pr, _, _, _, rfl, rfl, SqL.of ev, atI_nat gv, _, rfl, by show 2 ≤ sizeLine; decide, fun t1 m1 => ?_⟩
          obtain ⟨u1, q1⟩ := well_new (o := .tup [.int 1, .int 100]) R.well m1
          refine ⟨_, rfl, by show 2 ≤ sizeLine; decide, fun t2 m2 => ?_⟩
          obtain ⟨u2, q2⟩ := well_new (o := .tup [.int (-1), .int 100]) u1 m2
          refine ⟨_, rfl, by show 2 ≤ sizeLine; decide, fun t3 m3 => ?_⟩
          obtain ⟨u3, q3⟩ := well_new (o := .tup [.int (-2), .int 1]) u2 m3
          refine ⟨by show 2 ≤ sizeLine; decide, fun t4 m4 => ?_⟩
          obtain ⟨u4, q4⟩ := well_new (o := .tup [.int 1, .int 1]) u3 m4
          refine ⟨by show 4 ≤ sizeLine; decide, fun tl ml => ?_⟩
          obtain ⟨u5, q5⟩ := well_new (o := .lst [.ref t1, .ref t2, .ref t3, .ref t4]) u4 ml
          refine ⟨a, tl, _, f + 2, rfl, u5, sqL_hid u4 ml, by show 0 < 4; decide, by show 4 ≤ 1000; decide, fun i x H5 hx s5 w5 => ?_⟩
          obtain ⟨c, d, ic, lc, ld, hd0⟩ : ∃ c d : Int, IsTup2 (hid a H5) x c d ∧ c.natAbs < 2 ^ 7 ∧ d.natAbs < 2 ^ 7 ∧ d ≠ 0 := by
            rcases mem4 hx with e | e | e | e <;> subst e
            · exact ⟨_, _, (tup_hid (t := 1) (b := 100) R.well m1).mono (q2.trans (q3.trans (q4.trans (q5.trans s5)))), by decide, by decide, by decide⟩
            · exact ⟨_, _, (tup_hid (t := -1) (b := 100) u1 m2).mono (q3.trans (q4.trans (q5.trans s5))), by decide, by decide, by decide⟩
            · exact ⟨_, _, (tup_hid (t := -2) (b := 1) u2 m3).mono (q4.trans (q5.trans s5)), by decide, by decide, by decide⟩
            · exact ⟨_, _, (tup_hid (t := 1) (b := 1) u3 m4).mono (q5.trans s5), by decide, by decide, by decide⟩
          have sall := q1.trans (q2.trans (q3.trans (q4.trans (q5.trans s5))))
          have R5 := R.keep sall w5
          refine ⟨_, _, _, _, _, _, rfl, IsPr.ts iv (TS.well R.well sall), ic.mono hid_same, (W4 bz).1, (W4 bz).2, up lc (by decide), up ld (by decide), den_ne _, hd0, fun H6 r6 s6 h6 => ?_⟩
          have R6 := R5.keep (hid_mono s6) (R5.well.same s6)
          obtain ⟨vs6, e6, a6⟩ := R6.at_
          refine ⟨_, rfl, _, rfl, pr, vs6, _, to, rfl, rfl, e6, ixn (by rw [a6.1]; exact ht), ?_⟩
          have R7 := R6.set (j := to) e6 (o := some _) h6
          refine fin _ _ ⟨pr, _, _, _, rfl, R7.keep (Same.refl _) (R7.well.mono (by omega)), (b0.set (n' := n + 20) (by omega) fun q e => ?_).mono (Nat.le_refl _) (by omega)⟩
          cases e
          have := (Bd.divInt (den_ne z) bz.num (den_abs bz)).add (Bd.divInt hd0 lc ld)
          exact this.mono (by omega)
        refine ⟨_, rfl, rfl, _, rfl, ite2 (fun hb1 => ?_) (fun hb1 => ?_)⟩
        · -- two exchanged
          refine ⟨_, rfl, _, rfl, pr, vs, rfl, .inl (SqL.of ev), a, (vs.length : Nat), f + 2, rfl, R.well, by omega, log_small (by omega), fun d H5 d0 d1 s5 w5 => ?_⟩
          have R5 := R.keep s5 w5
          have hd : d.toNat < its0.length := by omega
          have ed : d = ((d.toNat : Nat) : Int) := by omega
          generalize d.toNat = ot at hd ed
          subst ed
          obtain ⟨vs5, v1, o1, e5, l5, g1, go1, i1⟩ := R5.get hd
          obtain ⟨vs5', v2, o2, e5', l5', g2, go2, i2⟩ := R5.get ht
          rw [e5] at e5'
          cases e5'
          refine ⟨_, rfl, _, rfl, pr, _, _, _, rfl, rfl, SqL.of e5, atI_nat g1, _, rfl, _, rfl, pr, _, _, _, rfl, rfl, SqL.of e5, atI_nat g2, by show 2 ≤ sizeLine; decide, fun tp ntp => ?_⟩
          obtain ⟨u6, q6⟩ := well_new (o := .tup [v1, v2]) R5.well ntp
          have st := same_upd (o := .tup [v1, v2]) ntp
          have R6 := R5.keep q6 u6
          have e6 := st _ _ e5
          have R7 := R6.set (j := to) e6 (IsIt.mono st i1)
          have i2' := IsIt.ts (TS.lst (o := .lst (vs5.set to v1)) e6) (IsIt.mono st i2)
          have R8 := R7.set (j := ot) upd_same i2'
          refine ⟨tp, _, rfl, .inl (.inl upd_same), rfl, _, _, rfl, _, rfl, _, rfl, pr, vs5, _, to, rfl, rfl, e6, ixn (by omega), _, _, rfl, _, rfl, _, rfl, pr, _, _, ot, rfl, rfl, upd_same, ixn (by rw [List.length_set]; omega), rfl, ?_⟩
          refine fin _ _ ⟨pr, _, _, _, rfl, R8.keep (Same.refl _) (R8.well.mono (by omega)), ((b0.set (n' := n + 20) (by omega) fun q e => ?_).set (Nat.le_refl _) fun q e => ?_).mono (Nat.le_refl _) (by omega)⟩
          · subst e
            exact (b0.2 q (List.mem_of_getElem? go1)).mono (by omega)
          · subst e
            exact (b0.2 q (List.mem_of_getElem? go2)).mono (by omega)
        refine ⟨_, rfl, rfl, _, rfl, ite2 (fun hb2 => ?_) (fun hb2 => ?_)⟩
        · -- moved
          have hp2 : pick = 2 := V.int.inj (of_decide_eq_true hb2)
          refine ⟨_, rfl, _, rfl, pr, vs, rfl, .inl (SqL.of ev), a, (vs.length : Nat), f + 2, rfl, R.well, by omega, log_small (by omega), fun d H5 d0 d1 s5 w5 => ?_⟩
          have R5 := R.keep s5 w5
          have hd : d.toNat < its0.length := by omega
          have ed : d = ((d.toNat : Nat) : Int) := by omega
          generalize d.toNat = ot at hd ed
          subst ed
          obtain ⟨vs5, v1, o1, e5, l5, g1, go1, i1⟩ := R5.get ht
          obtain ⟨z1, rfl⟩ := hall (.inr hp2) o1 (List.mem_of_getElem? go1)
          have bz := b0.2 z1 (List.mem_of_getElem? go1)
          refine ⟨_, rfl, _, rfl, pr, _, _, _, rfl, rfl, SqL.of e5, atI_nat g1, _, rfl, by show 2 ≤ sizeLine; decide, fun tp ntp => ?_⟩
          have st := same_upd (o := .tup [.int (-1), .int 7]) ntp
          refine ⟨_, _, _, _, _, _, rfl, IsPr.mono i1 st, ⟨tp, rfl, upd_same⟩, (W4 bz).1, (W4 bz).2, by exact up (n := 3) (by decide) (by decide), by exact up (n := 3) (by decide) (by decide), den_ne _, by decide, fun H6 r6 s6 h6 => ?_⟩
          have s56 := st.trans s6
          have R6 := R5.keep (hid_mono s56) (R5.well.same s56)
          have e6 := s56 _ _ e5
          refine ⟨_, rfl, _, rfl, pr, vs5, _, to, rfl, rfl, e6, ixn (by omega), ?_⟩
          have R7 := R6.set (j := to) e6 (o := some _) h6
          have b7 : ItB (n + 10) l _ := b0.set (j := to) (o := some _) (n' := n + 10) (by omega) fun q e => by
            cases e
            exact ((Bd.divInt (den_ne z1) bz.num (den_abs bz)).add (Bd.divInt (n := 3) (t := -1) (b := 7) (by decide) (by decide) (by decide))).mono (by omega)
          have al7 : ∀ o ∈ its0.set to (some (Rat.divInt z1.num (z1.den : Int) + Rat.divInt (-1) 7)), ∃ q, o = some q := fun o ho => by
            rcases List.mem_or_eq_of_mem_set ho with h | h
            · exact hall (.inr hp2) o h
            · exact ⟨_, h⟩
          generalize upd H6 pr (.lst (vs5.set to r6)) = H7 at *
          obtain ⟨vs8, v3, o3, e8, l8, g3, go3, i3⟩ := R7.get (j := ot) (by rw [List.length_set]; exact hd)
          obtain ⟨z3, rfl⟩ := al7 o3 (List.mem_of_getElem? go3)
          have bz3 := b7.2 z3 (List.mem_of_getElem? go3)
          refine ⟨_, rfl, _, rfl, pr, _, _, _, rfl, rfl, SqL.of e8, atI_nat g3, by show 2 ≤ sizeLine; decide, fun tq ntq => ?_⟩
          have st' := same_upd (o := .tup [.int 1, .int 7]) ntq
          refine ⟨_, _, _, _, _, _, rfl, IsPr.mono i3 st', ⟨tq, rfl, upd_same⟩, up bz3.num (by omega), up (den_abs bz3) (by omega), by exact up (n := 3) (by decide) (by decide), by exact up (n := 3) (by decide) (by decide), den_ne _, by decide, fun H9 r9 s9 h9 => ?_⟩
          have s79 := st'.trans s9
          have R9 := R7.keep (hid_mono s79) (R7.well.same s79)
          have e9 := s79 _ _ e8
          refine ⟨_, rfl, _, rfl, pr, vs8, _, ot, rfl, rfl, e9, ixn (by rw [l8, List.length_set]; exact hd), ?_⟩
          have R10 := R9.set (j := ot) e9 (o := some _) h9
          refine fin _ _ ⟨pr, _, _, _, rfl, R10.keep (Same.refl _) (R10.well.mono (by omega)), (b7.set (n' := n + 20) (by omega) fun q e => ?_).mono (Nat.le_refl _) (by omega)⟩
          cases e
          exact ((Bd.divInt (den_ne z3) bz3.num (den_abs bz3)).add (Bd.divInt (n := 3) (t := 1) (b := 7) (by decide) (by decide) (by decide))).mono (by omega)
        refine ⟨_, rfl, rfl, _, rfl, ite2 (fun hb3 => ?_) (fun hb3 => ?_)⟩
        · -- what is none
          refine ⟨_, rfl, by show 4 ≤ sizeLine; decide, fun tl ml => ?_⟩
          obtain ⟨u5, q5⟩ := well_new (o := .lst [.int 0, .non, .str "0", .bl true]) R.well ml
          refine ⟨a, tl, _, f + 2, rfl, u5, sqL_hid R.well ml, by show 0 < 4; decide, by show 4 ≤ 1000; decide, fun i x H5 hx s5 w5 => ?_⟩
          have R5 := R.keep (q5.trans s5) w5
          obtain ⟨vs6, e6, a6⟩ := R5.at_
          refine ⟨_, rfl, _, rfl, pr, vs6, _, to, rfl, rfl, e6, ixn (by rw [a6.1]; exact ht), ?_⟩
          have R7 := R5.set (j := to) e6 (v := x) (o := none) (mem4 hx)
          exact fin _ _ ⟨pr, _, _, _, rfl, R7.keep (Same.refl _) (R7.well.mono (by omega)), (b0.set (j := to) (o := none) (n' := n + 20) (by omega) fun q e => by cases e).mono (Nat.le_refl _) (by omega)⟩
        refine ⟨_, rfl, rfl, _, rfl, ite2 (fun hb4 => ?_) (fun hb4 => ?_)⟩
        · -- one fewer or more
          refine ⟨_, rfl, _, rfl, 1, rfl, pr, vs, rfl, SqL.of ev, fun c1 n1 => ?_⟩
          have ec : cutV vs (some (1 : Int)) none = vs.drop 1 := cut_from (k := 1) (by omega)
          rw [ec]
          obtain ⟨u1, q1⟩ := well_new (o := .lst (vs.drop 1)) R.well n1
          have st1 := same_upd (o := .lst (vs.drop 1)) n1
          refine ⟨_, rfl, by show 2 ≤ sizeLine; decide, fun t1 m1 => ⟨by show 1 ≤ sizeLine; decide, fun c2 n2 => ?_⟩⟩
          obtain ⟨u2, q2⟩ := well_new (o := .tup [.int 0, .int 1]) u1 m1
          have st2 := same_upd (o := .tup [.int 0, .int 1]) m1
          obtain ⟨u3, q3⟩ := well_new (o := .lst [.ref t1]) u2 n2
          have st3 := same_upd (o := .lst [.ref t1]) n2
          refine ⟨pr, c2, vs, _, rfl, rfl, st3 _ _ (st2 _ _ (st1 _ _ ev)), upd_same, Nat.le_of_lt (small1000 (by simp; omega)), fun c3 n3 => ?_⟩
          obtain ⟨u4, q4⟩ := well_new (o := .lst (vs ++ [.ref t1])) u3 n3
          have st4 := same_upd (o := .lst (vs ++ [.ref t1])) n3
          refine ⟨by show 2 ≤ sizeLine; decide, fun tl ml => ?_⟩
          obtain ⟨u5, q5⟩ := well_new (o := .lst [.ref c1, .ref c3]) u4 ml
          refine ⟨a, tl, _, f + 2, rfl, u5, sqL_hid u4 ml, by show 0 < 2; decide, by show 2 ≤ 1000; decide, fun i x H5 hx s5 w5 => ?_⟩
          have sall := q1.trans (q2.trans (q3.trans (q4.trans (q5.trans s5))))
          have ts := TS.well R.well sall
          have s05 := R.same.trans sall
          have hx' : x = .ref c1 ∨ x = .ref c3 := by
            have := List.mem_of_getElem? hx
            simpa using this
          have rv5 := rv.imp fun _ _ h => IsIt.ts ts h
          have na1 : c1 ≠ a := R.well.ne n1
          have na3 : c3 ≠ a := u3.ne n3
          have H3 : H c3 = none := none_back (R.same.trans (q1.trans (q2.trans q3))) u3 n3
          rcases hx' with rfl | rfl
          · have e1 : H5 c1 = some (.lst (vs.drop 1)) := by
              have := (q2.trans (q3.trans (q4.trans (q5.trans s5)))) c1 _ (by rw [hid_ne na1]; exact upd_same)
              rwa [hid_ne na1] at this
            exact fin _ _ ⟨c1, its0.drop 1, _, _, rfl, ⟨none_back R.same R.well n1, na1, ⟨_, e1, rv5.drop 1⟩, s05, w5.mono (by omega)⟩, ⟨by rw [List.length_drop]; omega, fun q hq => (b0.2 q (List.mem_of_mem_drop hq)).mono (by omega)⟩⟩
          · have e3 : H5 c3 = some (.lst (vs ++ [.ref t1])) := by
              have := (q5.trans s5) c3 _ (by rw [hid_ne na3]; exact upd_same)
              rwa [hid_ne na3] at this
            have it1 : IsIt H5 (.ref t1) (some 0) := by
              have := (tup_hid (t := 0) (b := 1) u1 m1).mono (q3.trans (q4.trans (q5.trans s5)))
              exact IsTup2.mono this hid_same
            refine fin _ _ ⟨c3, its0 ++ [some 0], _, _, rfl, ⟨H3, na3, ⟨_, e3, rv5.snoc it1⟩, s05, w5.mono (by omega)⟩, ⟨by simp; omega, fun q hq => ?_⟩⟩
            rcases List.mem_append.mp hq with h | h
            · exact (b0.2 q h).mono (by omega)
            · have : q = 0 := by simpa using h
              subst this
              exact (⟨by decide, by decide⟩ : Bd 1 (0 : Rat)).mono (by omega)
        refine ⟨_, rfl, rfl, _, rfl, ite2 (fun hb5 => ?_) (fun hb5 => ?_)⟩
        · -- a row fewer or more, or turned about
          refine ⟨_, rfl, _, rfl, 1, rfl, p, ws, rfl, sq R.same, fun c1 n1 => ?_⟩
          have ec : cutV ws (some (1 : Int)) none = ws.drop 1 := cut_from (k := 1) (by omega)
          rw [ec]
          obtain ⟨u1, q1⟩ := well_new (o := .lst (ws.drop 1)) R.well n1
          have s01 := R.same.trans q1
          have hpA : ∀ {G}, Same (hid a H) (hid a G) → G p = some (.lst ws) := fun s => hid_same _ _ (s _ _ hp)
          refine ⟨_, rfl, _, rfl, by show 1 ≤ sizeLine; decide, fun c2 n2 => ?_⟩
          obtain ⟨u2, q2⟩ := well_new (o := .lst [.ref pr]) u1 n2
          have s02 := s01.trans q2
          refine ⟨p, c2, ws, _, rfl, rfl, hpA s02, upd_same, Nat.le_of_lt (small1000 (by simp; omega)), fun c3 n3 => ?_⟩
          obtain ⟨u3, q3⟩ := well_new (o := .lst (ws ++ [.ref pr])) u2 n3
          have s03 := s02.trans q3
          refine ⟨_, rfl, p, ws, rfl, sq s03, fun c4 n4 => ?_⟩
          obtain ⟨u4, q4⟩ := well_new (o := .lst ws.reverse) u3 n4
          refine ⟨by show 3 ≤ sizeLine; decide, fun tl ml => ?_⟩
          obtain ⟨u5, q5⟩ := well_new (o := .lst [.ref c1, .ref c3, .ref c4]) u4 ml
          refine ⟨a, tl, _, f + 2, rfl, u5, sqL_hid u4 ml, by show 0 < 3; decide, by show 3 ≤ 1000; decide, fun i x H5 hx s5 w5 => ?_⟩
          have sall := q1.trans (q2.trans (q3.trans (q4.trans (q5.trans s5))))
          have s05 := R.same.trans sall
          have R5 := R.keep sall w5
          have na1 : c1 ≠ a := R.well.ne n1
          have na3 : c3 ≠ a := u2.ne n3
          have na4 : c4 ≠ a := u3.ne n4
          have A5 := fwd s05
          have w6 := w5.mono (show f ≤ f + 2 by omega)
          have pbr : ∀ i ∈ rows, ItB (n + 20) (l + 1) i := fun i hi => keepB (pb.row i hi)
          rcases mem3 hx with rfl | rfl | rfl
          · exact q _ _ (rows.drop 1) s05 w6 ⟨c1, _, rfl, (q2.trans (q3.trans (q4.trans (q5.trans s5)))) c1 _ (by rw [hid_ne na1]; exact upd_same), A5.drop 1⟩ ⟨by rw [List.length_drop]; omega, fun i hi => pbr i (List.mem_of_mem_drop hi)⟩
          · obtain ⟨vs5, e5, r5⟩ := R5.at_
            have rowI : IsPRow (hid a H5) (.ref pr) its0 := ⟨pr, vs5, rfl, by rw [hid_ne R5.ne]; exact e5, r5.imp fun v o h => by
              cases o with
              | none => exact h
              | some q => exact IsTup2.hid R5.well h⟩
            refine q _ _ (rows ++ [its0]) s05 w6 ⟨c3, _, rfl, (q4.trans (q5.trans s5)) c3 _ (by rw [hid_ne na3]; exact upd_same), A5.snoc rowI⟩ ⟨by simp; omega, fun i hi => ?_⟩
            rcases List.mem_append.mp hi with h | h
            · exact pbr i h
            · have : i = its0 := by simpa using h
              subst this
              exact keepB b0
          · exact q _ _ rows.reverse s05 w6 ⟨c4, _, rfl, (q5.trans s5) c4 _ (by rw [hid_ne na4]; exact upd_same), A5.reverse⟩ ⟨by rw [List.length_reverse]; omega, fun i hi => pbr i (List.mem_reverse.mp hi)⟩
        · exact fin _ _ ⟨pr, _, _, _, rfl, R.keep (Same.refl _) (R.well.mono (by omega)), keepB b0⟩
    · refine ⟨_, rfl, by show 2 ≤ sizeLine; decide, fun tp ntp => ?_⟩
      obtain ⟨w5, s5⟩ := well_new (o := .tup [.int 0, .int 2]) R4.well ntp
      have R5 := R4.keep s5 w5
      refine ⟨tp, _, rfl, .inr (.inl (.inl upd_same)), rfl, rfl, _, rfl, ?_⟩
      generalize upd H4 tp (.tup [.int 0, .int 2]) = H5 at *
      refine ite2 (fun hb => ?_) (fun hb => ?_)
      · obtain ⟨vs5, e5, r5⟩ := R5.at_
        refine ⟨_, rfl, pr, rfl, ⟨_, SqL.of e5⟩, fun D nD => lc_some (K := K) (a := pr) (xs := vs5) (fun i => (its0[i]?.getD none).isNone) nD (SqL.of e5) (by rw [r5.1]; have := b0.1; omega) (fun i x H6 kt kf hi s6 ht hf' => ?_) (fun H6 ys s6 e6 l6 => ?_)⟩
        · obtain ⟨o, ho, hx⟩ := r5.at hi
          have hx := IsIt.mono s6 hx
          rw [ho] at ht hf'
          simp only [Option.getD_some] at ht hf'
          refine ⟨rfl, ?_⟩
          cases o with
          | some z =>
            obtain ⟨pt, rfl, htp⟩ := hx
            exact ⟨_, rfl, _, _, _, _, true, rfl, .ty _, .base (.tup htp), kit_ty (by decide +kernel), true, rfl, iteF (hf' rfl _ (Same.refl _))⟩
          | none =>
            obtain ⟨t, ty, kt'⟩ := odd_ty (K := K) (H := H6) hx
            exact ⟨_, rfl, _, _, _, _, false, rfl, .ty _, ty, kit_ty kt', false, rfl, iteT ⟨_, rfl, ht rfl _ _ (Same.refl _)⟩⟩
        · have s56 : Same H5 H6 := s6.trans hid_same
          have R6 := R5.keep (hid_mono s56) (R5.well.same s56)
          refine ⟨Nat.zero_le _, fun e0 n0 => ?_⟩
          obtain ⟨w7, s7⟩ := well_new (o := .lst []) R6.well n0
          have R7 := R6.keep s7 w7
          refine ⟨D, e0, ys, rfl, rfl, SqL.of (same_upd n0 _ _ e6), sqL_new, _, rfl, ite2 (fun hb => ?_) (fun hb => ?_)⟩
          · refine ⟨_, rfl, p, ws, rfl, sq R7.same, fun pv npv => ?_⟩
            obtain ⟨w8, s8⟩ := well_new (o := .lst ws.reverse) R7.well npv
            have s08 := R7.same.trans s8
            refine q _ _ rows.reverse s08 (w8.mono (by omega)) ⟨pv, _, rfl, by rw [hid_updN (R7.well.ne npv)]; exact upd_same, (aa.imp fun _ _ h => IsPRow.mono s08 h).reverse⟩ ⟨by rw [List.length_reverse]; omega, fun its h => ?_⟩
            have := pb.row its (List.mem_reverse.mp h)
            exact ⟨by omega, fun q hq => (this.2 q hq).mono (by omega)⟩
          · refine fin _ _ ⟨_, rfl, R7, fun _ o ho => ?_⟩
            have he : ys.isEmpty = true := by simpa using hb
            rw [l6, List.all_eq_true] at he
            obtain ⟨j, hj⟩ := List.mem_iff_getElem?.mp ho
            have := he j (by rw [List.mem_range, r5.1]; exact (List.getElem?_eq_some_iff.mp hj).1)
            rw [hj] at this
            cases o with
            | none => cases this
            | some z => exact ⟨z, rfl⟩
      · refine fin _ _ ⟨_, rfl, R5, fun h => ?_⟩
        exact absurd (by rcases h with rfl | rfl <;> rfl) hb
end

end Fb

namespace Fb
open PySem PySem.Spec PyProof.Rows L2
section
variable {P : Program} {w : World} {K : PySem.W.Frag} {mg : Str → Option Value} {base : Heap}
/-! ### lists of pairs compared -/
def pd (q : Rat) : PyData := .tuple [.int q.num, .int (q.den : Int)]
theorem AllAre.uncons {α : Type} {R : V → α → Prop} {v : V} {x : α} {vs : List V} {xs : List α} (h : AllAre R (v :: vs) (x :: xs)) : R v x ∧ AllAre R vs xs :=
  ⟨h.2 0 v x rfl rfl, by simpa using h.1, fun i a b h1 h2 => h.2 (i + 1) a b (by simpa using h1) (by simpa using h2)⟩
theorem dpAll_prs {H : Hp} : ∀ {vs : List V} {qs : List Rat}, AllAre (IsPr H) vs qs → DpAll K H vs (qs.map pd)
  | [], [], _ => .nil
  | v :: vs, q :: qs, h => .cons (IsTup2.dp h.uncons.1) (dpAll_prs h.uncons.2)
  | [], _ :: _, h => by simp [AllAre] at h
  | _ :: _, [], h => by simp [AllAre] at h
theorem dp_prs {H : Hp} {v : V} {qs : List Rat} (h : IsPrs H v qs) : Dp K H v (.list (qs.map pd)) := by
  obtain ⟨p, vs, rfl, e, a⟩ := h
  exact .lst (SqL.of e) (dpAll_prs a)
theorem shaped_prs (qs : List Rat) : SeqAt.shaped (.list (qs.map pd)) = true := by
  have h1 : ∀ qs : List Rat, PyData.canLayAll0 (qs.map pd) = true := fun qs => by
    induction qs with
    | nil => rfl
    | cons q r ih => simp [PyData.canLayAll0, pd, PyData.canLay0, ih]
  have h2 : ∀ qs : List Rat, PyData.depthAll (qs.map pd) ≤ 1 := fun qs => by
    induction qs with
    | nil => simp [PyData.depthAll]
    | cons q r ih =>
      have : PyData.depth (pd q) = 1 := by simp [pd, PyData.depth, PyData.depthAll]
      simp only [List.map_cons, PyData.depthAll, this]
      omega
  have h3 := h2 qs
  unfold SeqAt.shaped
  rw [Bool.and_eq_true]
  refine ⟨by simp [PyData.canLay0, h1], decide_eq_true ?_⟩
  show PyData.depthAll (qs.map pd) + 1 ≤ 64
  omega
theorem eqv_prs : ∀ qs rs : List Rat, PyData.eqv (.list (qs.map pd)) (.list (rs.map pd)) = decide (qs = rs)
  | [], [] => by simp [PyData.eqv, PyData.eqvAll]
  | [], _ :: _ => by simp [PyData.eqv, PyData.eqvAll]
  | _ :: _, [] => by simp [PyData.eqv, PyData.eqvAll]
  | q :: qs, r :: rs => by
    have ih := eqv_prs qs rs
    simp only [PyData.eqv] at ih
    have e : PyData.eqv (pd q) (pd r) = decide (q = r) := by
      unfold pd
      rw [eqv_tup2, Bool.eq_iff_iff]
      simp only [Bool.and_eq_true, beq_iff_eq, decide_eq_true_eq]
      exact ⟨fun h => Rat.ext h.1 (by omega), fun h => by rw [h]; exact ⟨rfl, rfl⟩⟩
    simp only [List.map_cons, PyData.eqv, PyData.eqvAll, e, ih]
    rw [Bool.eq_iff_iff]
    simp
/-! ### whether rows of pairs are a plan -/
def badIt : Option Rat → Bool
  | some q => decide (q < 0)
  | none => true
def goodRow (its : List (Option Rat)) : Prop := ∀ o ∈ its, ∃ q, o = some q ∧ 0 ≤ q
def colsOf (rows : List (List (Option Rat))) (k : Nat) : List Rat := (List.range k).map fun y => rsum (rows.map fun its => at0 (ratsOf (some its)) y)
theorem planB_iff {rows : List (List (Option Rat))} {ps qs : List Rat} : planB (rows.map some) ps qs = true ↔ rows.length = ps.length ∧ (∀ (i : Nat) its, rows[i]? = some its → its.length = qs.length ∧ goodRow its ∧ ps[i]? = some (rsum (ratsOf (some its)))) ∧ colsOf rows qs.length = qs := by
  have am : ∀ its : List (Option Rat), amOk its qs.length = true ↔ its.length = qs.length ∧ goodRow its := fun its => by
    unfold amOk shOk goodRow
    simp only [Bool.and_eq_true, decide_eq_true_eq, List.all_eq_true]
    constructor
    · rintro ⟨⟨h1, h2⟩, h3⟩
      refine ⟨h1, fun o ho => ?_⟩
      obtain ⟨q, rfl⟩ := Option.isSome_iff_exists.mp (h2 o ho)
      exact ⟨q, rfl, of_decide_eq_true (h3 _ ho)⟩
    · rintro ⟨h1, h2⟩
      refine ⟨⟨h1, fun o ho => ?_⟩, fun o ho => ?_⟩
      · obtain ⟨q, rfl, _⟩ := h2 o ho
        rfl
      · obtain ⟨q, rfl, h⟩ := h2 o ho
        exact decide_eq_true h
  unfold planB tabOk colsOf
  simp only [Bool.and_eq_true, decide_eq_true_eq, List.all_eq_true, List.length_map, List.map_map]
  constructor
  · rintro ⟨⟨h1, h2⟩, h3, h4⟩
    refine ⟨h1, fun i its hi => ?_, h4⟩
    have := (am its).mp (h2 _ (List.mem_map_of_mem (List.mem_of_getElem? hi)))
    refine ⟨this.1, this.2, ?_⟩
    rw [← h3, List.getElem?_map, hi]
    rfl
  · rintro ⟨h1, h2, h4⟩
    refine ⟨⟨h1, fun r hr => ?_⟩, ?_, h4⟩
    · obtain ⟨its, hits, rfl⟩ := List.mem_map.mp hr
      obtain ⟨i, hi⟩ := List.mem_iff_getElem?.mp hits
      exact (am its).mpr ⟨(h2 i its hi).1, (h2 i its hi).2.1⟩
    · refine List.ext_getElem? fun i => ?_
      rw [List.getElem?_map]
      cases e : rows[i]? with
      | none =>
        rw [List.getElem?_eq_none (by rw [← h1]; exact List.getElem?_eq_none_iff.mp e)]
        rfl
      | some its =>
        rw [(h2 i its e).2.2]
        rfl
def spDue (K : PySem.W.Frag) : Sp := fun vs H Q _ => ∃ (v f g : V) (rows : List (List (Option Rat))) (ps qs : List Rat), vs = [v, f, g] ∧ IsPl H v rows ∧ PB 100 100 rows ∧ IsPrs H f ps ∧ IsPrs H g qs ∧ ps.length ≤ 12 ∧ qs.length ≤ 12 ∧ ∀ H', Same H H' → Q (.bl (planB (rows.map some) ps qs)) H'
theorem rats_good {its : List (Option Rat)} (h : goodRow its) {H : Hp} {v : V} (hv : IsPRow H v its) : IsPrs H v (ratsOf (some its)) := by
  obtain ⟨p, vs, rfl, e, a⟩ := hv
  refine ⟨p, vs, rfl, e, .of_ix (by simp [ratsOf, a.1]) fun i y hy => ?_⟩
  obtain ⟨o, ho, hx⟩ := a.at hy
  obtain ⟨q, rfl, _⟩ := h o (List.mem_of_getElem? ho)
  exact ⟨q, by simp [ratsOf, ho], hx⟩
theorem ok_l_due (T : Txt K mg) : FnOk P w K mg base CX0 5 T.f_l_due T.d_l_due ["_law_plan", "_law_first", "_law_second"] (spDue K) := by
  refine T.F_l_due.ok sc_l_due (fun vs H Q E h => ?_) (fun cdv A outer s H vs Q E hr h => ?_)
  · obtain ⟨v, f, g, rows, ps, qs, rfl, _⟩ := h
    rfl
  · obtain ⟨v, f, g, rows, ps, qs, rfl, hv, pb, hf, hg, m12, k12, q⟩ := h
    refine ⟨_, (pss_cons (ps_if (PW.pt (pw_or (pt_cmpR op_ne (pe_callB call_len_seq (by rfl) T.z_len (by decide +kernel) (pa_cons (pv 0) pa_nil)) (pe_callB call_len_seq (by rfl) T.z_len (by decide +kernel) (pa_cons (pv 1) pa_nil)) (nomark _)) (pw_or1 (pt_cmpR (op_neNil hr.units0) (pe_lc (own := [("_law_row", 3)]) (g := (gName 3)) (tt := _) (by rfl) sc_l_due.nd (pi_list (pv 0)) (blkOk_by (own := [("_law_row", 3)]) (N := ["_law_plan", "_law_first", "_law_second", "_law_row", "_law_share", "_law_bad", "_law_one_here", "_law_at"]) (sc := defScope s_l_due) (by decide +kernel)) (fun _ _ _ _ _ => by exact (pg_name (i := 3) sc_l_due.nd rfl (.inl rfl))) (fun _ _ _ _ _ => by exact (pts_one (pt_cmpR op_ne (pe_callB (call_len_seqK (K := K) rfl) (by rfl) T.z_len (by decide +kernel) (pa_cons (pv 3) pa_nil)) (pe_callB (call_len_seqK (K := K) rfl) (by rfl) T.z_len (by decide +kernel) (pa_cons (pv 2) pa_nil)) (nomark _)))) (fun _ _ _ _ _ => by exact (pv 3))) (pe_lst pa_nil) (nomark _)))))
  (pss_one (ps_ret pe_bl))
  pss_nil)
 (pss_cons (ps_for PassesOwn.never rfl (pi_zip (by rfl) T.z_zip (pa_cons (pv 0) (pa_cons (pv 1) pa_nil))) (pg_tup (by rfl) (pgs_cons (pg_name (i := 3) sc_l_due.nd rfl (.inl rfl)) (pgs_cons (pg_name (i := 4) sc_l_due.nd rfl (.inl rfl)) pgs_nil)))
  (pss_cons (ps_setLc (i := 5) (own := [("_law_one_here", 6)]) (g := (gName 6)) (tt := _) (by rfl) sc_l_due.nd rfl rfl (sw_true rfl rfl rfl (by decide +kernel)) (pi_list (pv 3)) (blkOk_by (own := [("_law_one_here", 6)]) (N := ["_law_plan", "_law_first", "_law_second", "_law_row", "_law_share", "_law_bad", "_law_one_here", "_law_at"]) (sc := defScope s_l_due) (by decide +kernel)) (fun _ _ _ _ _ => by exact (pg_name (i := 6) sc_l_due.nd rfl (.inl rfl))) (fun _ _ _ _ _ => by exact (pts_one (PW.pt (pw_or (pt_not (pt_val (pe_callB (call_isiK (K := K) rfl) (by rfl) T.z_isinstance (by decide +kernel) (pa_cons (pv 6) (pa_cons (pe_bltn (v := .ty "tuple") (by rfl) T.z_tuple (by decide +kernel) rfl) pa_nil))))) (pw_or1 (pt_cmpR op_lt (pe_ix (ix_tupK (K := K) rfl) (pv 6) pe_int (fun _ _ => rfl)) pe_int (nomark _))))))) (fun _ _ _ _ _ => by exact (pv 6)))
 (pss_one (ps_if (PW.pt (pw_or (pt_cmpR (op_neNil hr.units0) (pv 5) (pe_lst pa_nil) (nomark _)) (pw_or1 (pt_cmpR (op_neD hr.units) (pe_call (ok_l_total T) (hr.mono (by decide)) (by rfl) T.g_l_total T.F_l_total.kp T.b_l_total .nil pass0 (pa_cons (pv 3) pa_nil)) (pv 4) (nomark _)))))
  (pss_one (ps_ret pe_bl))
  pss_nil))))
 (pss_one (ps_ret (pe_cmpR (op_eqD hr.units) (pe_lc (own := [("_law_at", 7)]) (g := (gName 7)) (tt := tYes) (by rfl) sc_l_due.nd (pi_range1 (by rfl) T.z_range (pa_cons (pe_callB call_len_seq (by rfl) T.z_len (by decide +kernel) (pa_cons (pv 2) pa_nil)) pa_nil)) (blkOk_by (own := [("_law_at", 7)]) (N := ["_law_plan", "_law_first", "_law_second", "_law_row", "_law_share", "_law_bad", "_law_one_here", "_law_at"]) (sc := defScope s_l_due) (by decide +kernel)) (fun _ _ _ _ _ => by exact (pg_name (i := 7) sc_l_due.nd rfl (.inr rfl))) (fun _ _ _ _ _ => by exact pts_nil) (fun _ _ _ _ _ => by exact (pe_call (ok_l_total T) (hr.mono (by decide)) (by rfl) T.g_l_total T.F_l_total.kp T.b_l_total .nil pass0 (pa_cons (by exact (pe_lc (own := [("_law_row", 3)]) (g := (gName 3)) (tt := tYes) (by rfl) sc_l_due.nd (pi_listK (K := K) rfl (pv 0)) (by exact blkOk_by (own := [("_law_row", 3)]) (by kernel_rfl)) (fun _ _ _ _ _ => by exact (pg_name (i := 3) sc_l_due.nd rfl (.inl rfl))) (fun _ _ _ _ _ => by exact pts_nil) (fun _ _ _ _ _ => by exact (pe_ix (ix_listK (K := K) rfl) (pv 3) (pv 7) (fun _ _ => rfl))))) pa_nil)))) (pv 2) (nomark _)))))), ?_⟩
    obtain ⟨p, ws, rfl, hp, aa⟩ := id hv
    obtain ⟨p1, xs1, rfl, e1, a1⟩ := id hf
    obtain ⟨p2, xs2, rfl, e2, a2⟩ := id hg
    have no : ∀ {H'}, Same H H' → ¬ planB (rows.map some) ps qs = true → Q (.bl false) H' := fun s h => by
      have := q _ s
      rw [Bool.eq_false_iff.mpr h] at this
      exact this
    refine ⟨_, rfl, p, ws, rfl, .inl (SqL.of hp), _, rfl, p1, xs1, rfl, .inl (SqL.of e1), rfl, _, rfl, ?_⟩
    by_cases hl : rows.length = ps.length
    · rw [show (!decide (V.int (ws.length : Int) = V.int (xs1.length : Int))) = false by rw [aa.1, a1.1, hl]; simp]
      refine iteF ?_
      refine ⟨_, rfl, p, rfl, ⟨_, SqL.of hp⟩, fun D nD => lc_some (K := K) (a := p) (xs := ws) (fun i => !decide ((rows[i]?.getD []).length = qs.length)) nD (SqL.of hp) (by rw [aa.1]; have := pb.len; omega) (fun i x H2 kt kf hi s2 ht hf' => ?_) (fun H2 ys s2 e l => ?_)⟩
      · obtain ⟨its, hits, hx⟩ := aa.at hi
        obtain ⟨pr, rvs, rfl, er, ar⟩ := IsPRow.mono s2 hx
        rw [hits] at ht hf'
        simp only [Option.getD_some] at ht hf'
        refine ⟨rfl, _, rfl, pr, rvs, rfl, .inl (SqL.of er), _, rfl, p2, xs2, rfl, .inl (SqL.of (s2 _ _ e2)), rfl, _, rfl, ?_⟩
        rw [show (!decide (V.int (rvs.length : Int) = V.int (xs2.length : Int))) = !decide (its.length = qs.length) by
          rw [ar.1, a2.1]
          congr 1
          rw [Bool.eq_iff_iff]
          simp only [decide_eq_true_eq, V.int.injEq]
          omega]
        refine ite2 (fun hb => ?_) (fun hb => ?_)
        · exact ⟨_, rfl, ht hb _ _ (Same.refl _)⟩
        · exact hf' (by simpa using hb) _ (Same.refl _)
      · have s12 : Same H H2 := s2.trans hid_same
        refine ⟨Nat.zero_le _, fun e0 n0 => ?_⟩
        have sE := same_upd (o := .lst []) n0
        refine ⟨D, e0, ys, rfl, rfl, SqL.of (sE _ _ e), sqL_new, _, rfl, ite2 (fun hb => ?_) (fun hb => ?_)⟩
        · refine no (s12.trans sE) fun h => ?_
          have hP := (planB_iff.mp h).2.1
          have : ys.isEmpty = true := by
            rw [l, List.all_eq_true]
            intro i hi
            have hi : i < rows.length := by rw [← aa.1]; simpa using hi
            have := (hP i rows[i] (List.getElem?_eq_getElem hi)).1
            rw [List.getElem?_eq_getElem hi]
            simp [this]
          rw [this] at hb
          exact absurd hb (by simp)
        · have hlen : ∀ (i : Nat) its, rows[i]? = some its → its.length = qs.length := fun i its hi => by
            have he : ys.isEmpty = true := by simpa using hb
            rw [l, List.all_eq_true] at he
            have := he i (by rw [List.mem_range, aa.1]; exact (List.getElem?_eq_some_iff.mp hi).1)
            rw [hi] at this
            simpa using this
          have s1 := s12.trans sE
          generalize upd H2 e0 (.lst []) = H3 at *
          -- row by row
          refine ⟨_, rfl, _, rfl, p, p1, ws, xs1, rfl, SqL.of (s1 _ _ hp), SqL.of (s1 _ _ e1), RZ.for_zipL (K := K) (a := p) (b := p1) (xs := ws) (ys := xs1) (by rw [aa.1, a1.1, hl]) (fun i σ H' => ∃ z3 z4 z5 z6 z7, σ = [some (.ref p), some (.ref p1), some (.ref p2), z3, z4, z5, z6, z7] ∧ Same H H' ∧ ∀ (j : Nat) its, j < i → rows[j]? = some its → goodRow its ∧ ps[j]? = some (rsum (ratsOf (some its)))) ⟨_, _, _, _, _, rfl, s1, fun j its hj => absurd hj (Nat.not_lt_zero _)⟩ (fun i σ H' h => ?_) (fun i x y tp σ H' hx hy h nt => ?_) (fun σ H' h => ?_)⟩
          · obtain ⟨_, _, _, _, _, _, s', _⟩ := h
            exact ⟨SqL.of (s' _ _ hp), SqL.of (s' _ _ e1)⟩
          · obtain ⟨z3, z4, z5, z6, z7, rfl, s', hj⟩ := h
            have st := same_upd (o := .tup [x, y]) nt
            obtain ⟨its, hits, hx'⟩ := aa.at hx
            obtain ⟨z, hz, hy'⟩ := a1.at hy
            have sT := s'.trans st
            have hrow := IsPRow.mono sT hx'
            have hy' := hy'.mono sT
            obtain ⟨pr, rvs, rfl, er, ar⟩ := id hrow
            refine ⟨tp, _, rfl, .inl (.inl upd_same), rfl, _, _, rfl, _, _, rfl, rfl, ?_⟩
            generalize upd H' tp (.tup [V.ref pr, y]) = H4 at *
            have pbr := pb.row its (List.mem_of_getElem? hits)
            refine ⟨_, rfl, pr, rfl, ⟨_, SqL.of er⟩, fun D5 nD5 => lc_some (K := K) (a := pr) (xs := rvs) (fun i => badIt (its[i]?.getD none)) nD5 (SqL.of er) (by rw [ar.1]; omega) (fun i6 x6 H6 kt kf hi6 s6 ht hf' => ?_) (fun H6 ys6 s6 e6 l6 => ?_)⟩
            · obtain ⟨o, ho, hx6⟩ := ar.at hi6
              have hx6 := IsIt.mono s6 hx6
              rw [ho] at ht hf'
              simp only [Option.getD_some] at ht hf'
              refine ⟨rfl, ?_⟩
              cases o with
              | some z6 =>
                obtain ⟨pt, rfl, htp⟩ := hx6
                refine ⟨_, rfl, _, _, _, _, true, rfl, .ty _, .base (.tup htp), kit_ty (by decide +kernel), true, rfl, iteF ?_⟩
                refine ⟨_, rfl, pt, _, _, _, rfl, rfl, .inl (.inl htp), atI_nat (j := 0) rfl, _, _, rfl, rfl, _, rfl, ?_⟩
                have eb : decide (z6.num < 0) = badIt (some z6) := by
                  unfold badIt
                  exact decide_eq_decide.mpr (by rw [← Rat.not_le, ← Int.not_le, Rat.num_nonneg])
                refine ite2 (fun hb => ?_) (fun hb => ?_)
                · exact ⟨_, rfl, ht (by rw [← eb]; exact hb) _ _ (Same.refl _)⟩
                · exact hf' (by rw [← eb]; simpa using hb) _ (Same.refl _)
              | none =>
                obtain ⟨t, ty, kt'⟩ := odd_ty (K := K) (H := H6) hx6
                exact ⟨_, rfl, _, _, _, _, false, rfl, .ty _, ty, kit_ty kt', false, rfl, iteT (iteT ⟨_, rfl, ht rfl _ _ (Same.refl _)⟩)⟩
            · have s46 : Same H4 H6 := s6.trans hid_same
              refine ⟨_, rfl, Nat.zero_le _, fun e0 n0 => ?_⟩
              have sE := same_upd (o := .lst []) n0
              have good_iff : ys6.isEmpty = true ↔ goodRow its := by
                rw [l6, List.all_eq_true]
                constructor
                · intro h o ho
                  obtain ⟨j, hj⟩ := List.mem_iff_getElem?.mp ho
                  have := h j (by rw [List.mem_range, ar.1]; exact (List.getElem?_eq_some_iff.mp hj).1)
                  rw [hj] at this
                  cases o with
                  | none => cases this
                  | some z6 =>
                    refine ⟨z6, rfl, ?_⟩
                    simp only [Option.getD_some, badIt, Bool.not_eq_true', decide_eq_false_iff_not] at this
                    exact Rat.not_lt.mp this
                · intro h j hj
                  have hj : j < its.length := by rw [← ar.1]; simpa using hj
                  obtain ⟨z6, e6', h0⟩ := h its[j] (List.getElem_mem hj)
                  rw [List.getElem?_eq_getElem hj, e6']
                  simp only [Option.getD_some, badIt, Bool.not_eq_true', decide_eq_false_iff_not]
                  exact Rat.not_lt.mpr h0
              have s06 := sT.trans (s46.trans sE)
              refine ⟨D5, e0, ys6, rfl, rfl, SqL.of (sE _ _ e6), sqL_new, _, rfl, ite2 (fun hb => ?_) (fun hb => ?_)⟩
              · refine iteT (no s06 fun h => ?_)
                have := good_iff.mpr ((planB_iff.mp h).2.1 i its hits).2.1
                rw [this] at hb
                exact absurd hb (by simp)
              · have gd := good_iff.mp (by simpa using hb)
                have hp6 := rats_good gd (IsPRow.mono (s46.trans sE) hrow)
                refine ⟨_, rfl, _, _, 100, rfl, hp6, fun q hq => ?_, ?_, by decide, fun H7 r7 s7 h7 => ?_⟩
                · obtain ⟨o, ho, rfl⟩ := List.mem_map.mp hq
                  obtain ⟨z6, rfl, _⟩ := gd o ho
                  exact pbr.2 z6 ho
                · have : (ratsOf (some its)).length ≤ 12 := by
                    simp only [ratsOf, Option.getD_some, List.length_map, hlen i its hits]
                    exact k12
                  have := Nat.mul_le_mul_left (100 + 1) this
                  omega
                · have s07 := s06.trans s7
                  refine ⟨_, rfl, _, _, h7.dp, (hy'.mono (s46.trans (sE.trans s7))).dp, rfl, rfl, _, rfl, ?_⟩
                  rw [eqv_tup2]
                  by_cases ez : rsum (ratsOf (some its)) = z
                  · rw [ez]
                    simp only [beq_self_eq_true, Bool.and_self, Bool.not_true]
                    refine iteF ⟨_, _, _, _, _, rfl, s07, fun j its' hjj hj' => ?_⟩
                    by_cases ej : j = i
                    · subst ej
                      rw [hits] at hj'
                      cases hj'
                      exact ⟨gd, by rw [hz, ez]⟩
                    · exact hj j its' (by omega) hj'
                  · have en : ((rsum (ratsOf (some its))).num == z.num && ((rsum (ratsOf (some its))).den : Int) == (z.den : Int)) = false := by
                      rw [Bool.eq_false_iff]
                      intro h
                      simp only [Bool.and_eq_true, beq_iff_eq] at h
                      exact ez (Rat.ext h.1 (by omega))
                    rw [en]
                    refine iteT (no s07 fun h => ez ?_)
                    have := ((planB_iff.mp h).2.1 i its hits).2.2
                    rw [hz] at this
                    exact (Option.some.inj this).symm
          · obtain ⟨z3, z4, z5, z6, z7, rfl, s', hj⟩ := h
            have gd : ∀ (j : Nat) its, rows[j]? = some its → goodRow its := fun j its h => (hj j its (by rw [aa.1]; exact (List.getElem?_eq_some_iff.mp h).1) h).1
            have hp' := s' _ _ hp
            have aa' : AllAre (IsPRow H') ws rows := aa.imp fun _ _ h => IsPRow.mono s' h
            refine ⟨_, rfl, p2, xs2, rfl, .inl (SqL.of (s' _ _ e2)), _, rfl, by omega, by rw [a2.1]; omega, fun D3 nD3 => lc_allR (fun j y G => IsPr G y (rsum (rows.map fun its => at0 (ratsOf (some its)) j))) (fun _ _ _ _ s h => h.mono s) nD3 (by rw [Int.toNat_natCast, a2.1]; omega) (fun j H4 kk hjj s4 eD hk => ?_) (fun H4 ys4 s4 e4 l4 r4 => ?_)⟩
            · have s24 : Same H' H4 := s4.trans hid_same
              have hp4 := s24 _ _ hp'
              have aa4 : AllAre (IsPRow H4) ws rows := aa'.imp fun _ _ h => IsPRow.mono s24 h
              have hjk : j < qs.length := by rw [Int.toNat_natCast, a2.1] at hjj; exact hjj
              refine ⟨rfl, _, rfl, p, rfl, ⟨_, SqL.of hp4⟩, fun D5 nD5 => lc_all (K := K) (a := p) (xs := ws) (fun i y G => ∃ r, rows[i]? = some r ∧ IsPr G y (at0 (ratsOf (some r)) j)) (fun _ _ _ _ s h => h.elim fun p f => ⟨p, f.1, f.2.mono s⟩) nD5 (SqL.of hp4) (by rw [aa.1]; have := pb.len; omega) (fun i x H6 k6 hi s6 eD6 hk6 => ?_) (fun H6 ys6 s6 e6 l6 r6 => ?_)⟩
              · obtain ⟨o, ho, hx⟩ := aa4.at hi
                obtain ⟨pr, rvs, rfl, er, ar⟩ := rats_good (gd i o ho) (IsPRow.mono (s6.trans hid_same) hx)
                have hjr : j < rvs.length := by
                  rw [ar.1]
                  simp only [ratsOf, Option.getD_some, List.length_map, hlen i o ho]
                  exact hjk
                obtain ⟨z, hz, hs⟩ := ar.at (List.getElem?_eq_getElem hjr)
                refine ⟨rfl, _, rfl, _, rfl, pr, rvs, _, _, rfl, rfl, SqL.of er, (by rw [Int.zero_add]; exact atI_nat (List.getElem?_eq_getElem hjr)), hk6 _ _ (Same.refl _) ⟨o, ho, ?_⟩⟩
                rw [at0_of hz]
                exact IsTup2.hidL eD6 hs
              · have s46 : Same H4 H6 := s6.trans hid_same
                refine ⟨_, rows.map (fun r => at0 (ratsOf (some r)) j), 100, rfl, ⟨D5, ys6, rfl, e6, .of_ix (by rw [l6, aa.1, List.length_map]) fun i y hy => ?_⟩, fun q hq => ?_, ?_, by decide, fun H7 r7 s7 h7 => hk _ _ (s46.trans s7) (IsTup2.hidL ?_ h7)⟩
                · obtain ⟨o, ho, hs⟩ := r6 i y hy
                  exact ⟨_, by rw [List.getElem?_map, ho]; rfl, hs.mono hid_same⟩
                · obtain ⟨o, ho, rfl⟩ := List.mem_map.mp hq
                  obtain ⟨i, hi⟩ := List.mem_iff_getElem?.mp ho
                  have : at0 (ratsOf (some o)) j ∈ ratsOf (some o) := by
                    refine at0_mem ?_
                    simp only [ratsOf, Option.getD_some, List.length_map, hlen i o hi]
                    exact hjk
                  obtain ⟨it, hit, e⟩ := List.mem_map.mp this
                  obtain ⟨z, rfl, _⟩ := gd i o hi it hit
                  rw [← e]
                  exact (pb.row o ho).2 z hit
                · rw [List.length_map, hl]
                  have := Nat.mul_le_mul_left (100 + 1) m12
                  omega
                · obtain ⟨ys', e'⟩ := eD
                  exact ⟨ys', s7 _ _ (s46 _ _ e')⟩
            · have s24 : Same H' H4 := s4.trans hid_same
              have colsS : IsPrs H4 (.ref D3) (colsOf rows qs.length) := ⟨D3, ys4, rfl, e4, .of_ix (by rw [l4, Int.toNat_natCast, a2.1]; simp [colsOf]) fun i y hy => by
                have hi := (List.getElem?_eq_some_iff.mp hy).1
                rw [l4, Int.toNat_natCast, a2.1] at hi
                exact ⟨_, by unfold colsOf; rw [List.getElem?_map, List.getElem?_range hi]; rfl, (r4 i y hy).mono hid_same⟩⟩
              have sA := s'.trans s24
              refine ⟨_, rfl, _, _, dp_prs colsS, dp_prs (hg.mono sA), shaped_prs _, shaped_prs _, ?_⟩
              have fin := q _ sA
              have eB : planB (rows.map some) ps qs = decide (colsOf rows qs.length = qs) := by
                rw [Bool.eq_iff_iff, planB_iff, decide_eq_true_eq]
                exact ⟨fun h => h.2.2, fun h => ⟨hl, fun i its hi => ⟨hlen i its hi, gd i its hi, (hj i its (by rw [aa.1]; exact (List.getElem?_eq_some_iff.mp hi).1) hi).2⟩, h⟩⟩
              rw [eB, ← eqv_prs] at fin
              exact fin
    · rw [show (!decide (V.int (ws.length : Int) = V.int (xs1.length : Int))) = true by
        rw [aa.1, a1.1]
        simp only [Bool.not_eq_true', decide_eq_false_iff_not, V.int.injEq]
        omega]
      exact iteT (iteT (no (Same.refl _) fun h => hl (planB_iff.mp h).1))
end

end Fb

namespace Fb
open PySem PySem.Spec PyProof.Rows L2
section
variable {P : Program} {w : World} {K : PySem.W.Frag} {mg : Str → Option Value} {base : Heap}
def spLaw (K : PySem.W.Frag) : Sp := fun vs H Q _ => ∃ (a : Addr) (ns : List Int), vs = [.ref a] ∧ SqL K H a (ns.map V.int) ∧ ns.length ≤ 63 ∧ ∀ H', Q (.bl true) H'
theorem call_tuple_ofK {X : Cx} {K : PySem.W.Frag} (hK : X.K = K) : CallR X (.type "tuple") (fun xs H Q => ∃ p ys, xs = [.ref p] ∧ ((SqL K H p ys ∧ ∀ l, H l = none → Q (.ref l) (upd H l (.tup ys))) ∨ (SqT K H p ys ∧ Q (.ref p) H))) := hK ▸ call_tuple_of
theorem AllAre.map {α β : Type} {R : V → α → Prop} {R' : V → β → Prop} {vs : List V} {xs : List α} {f : α → β} (h : AllAre R vs xs) (i : ∀ v x, R v x → R' v (f x)) : AllAre R' vs (xs.map f) := by
  refine ⟨by simp [h.1], fun j v y hv hy => ?_⟩
  rw [List.getElem?_map] at hy
  obtain ⟨x, hx, rfl⟩ := Option.map_eq_some_iff.mp hy
  exact i v x (h.2 j v x hv hx)
def somes (tbl : List (List Rat)) : List (List (Option Rat)) := tbl.map fun r => r.map some
theorem pl_of_tbl {H : Hp} {v : V} {tbl : List (List Rat)} (h : IsTbl IsPrs H v tbl) : IsPl H v (somes tbl) := by
  obtain ⟨p, vs, e, h, a⟩ := h
  refine ⟨p, vs, e, h, a.map fun v r hr => ?_⟩
  obtain ⟨p', vs', e', h', a'⟩ := hr
  exact ⟨p', vs', e', h', a'.map fun v q hq => hq⟩
theorem plan_true {pl ql : List Rat} {T : Nat → Nat → Rat} (ok : PlanOk pl.length ql.length (at0 pl) (at0 ql) T) : planB ((somes (tblOf pl.length ql.length T)).map some) pl ql = true := by
  have rats : ∀ r : List Rat, ratsOf (some (r.map some)) = r := fun r => by
    simp [ratsOf, Function.comp_def]
  refine planB_iff.mpr ⟨by simp [somes, tblOf], fun i its hi => ?_, ?_⟩
  · unfold somes tblOf at hi
    rw [List.map_map, List.getElem?_map] at hi
    obtain ⟨x, hx, rfl⟩ := Option.map_eq_some_iff.mp hi
    have hxl := (List.getElem?_eq_some_iff.mp hx).1
    have ex : x = i := by
      have := (List.getElem?_eq_some_iff.mp hx).2
      simpa using this.symm
    subst ex
    have hxl : x < pl.length := by simpa using hxl
    refine ⟨by simp, fun o ho => ?_, ?_⟩
    · obtain ⟨q, hq, rfl⟩ := List.mem_map.mp ho
      obtain ⟨y, hy, rfl⟩ := List.mem_map.mp hq
      exact ⟨_, rfl, (ok.t0 x y hxl (by simpa using hy)).1⟩
    · rw [Function.comp_apply, rats]
      have := ok.row x hxl
      unfold rsumN at this
      rw [this, List.getElem?_eq_getElem hxl, at0_of (List.getElem?_eq_getElem hxl)]
  · unfold colsOf
    refine List.ext_getElem (by simp) fun y h1 h2 => ?_
    simp only [List.getElem_map, List.getElem_range]
    have := ok.col y h2
    rw [at0_of (List.getElem?_eq_getElem h2)] at this
    rw [← this]
    unfold rsumN somes tblOf
    congr 1
    rw [List.map_map, List.map_map]
    refine List.map_congr_left fun x hx => ?_
    rw [Function.comp_apply, Function.comp_apply, rats]
    exact at0_of (by rw [List.getElem?_map, List.getElem?_range h2]; rfl)
theorem pb_tbl {m k : Nat} {p q : Nat → Rat} {T : Nat → Nat → Rat} (ok : PlanOk m k p q T) (hm : m ≤ 12) (hk : k ≤ 12) : PB 21 12 (somes (tblOf m k T)) := by
  refine ⟨by simpa [somes, tblOf] using hm, fun its h => ?_⟩
  unfold somes tblOf at h
  rw [List.map_map] at h
  obtain ⟨x, hx, rfl⟩ := List.mem_map.mp h
  refine ⟨by simpa using hk, fun q hq => ?_⟩
  obtain ⟨q', hq', e⟩ := List.mem_map.mp hq
  cases e
  obtain ⟨y, hy, rfl⟩ := List.mem_map.mp hq'
  exact (ok.t0 x y (by simpa using hx) (by simpa using hy)).2
theorem PB.mono {n n' l l' : Nat} {rows : List (List (Option Rat))} (h : PB n l rows) (hn : n ≤ n') (hl : l ≤ l') : PB n' l' rows :=
  ⟨Nat.le_trans h.len hl, fun its hi => ⟨Nat.le_trans (h.row its hi).1 hl, fun q hq => ((h.row its hi).2 q hq).mono hn⟩⟩
/-- what a made plan is to is_plan -/
theorem rw_of {C : Addr} {H : Hp} {v : V} {rows : List (List (Option Rat))} (h : IsL (fun H v its => IsL (IsMd C) H v its) H v rows) : IsL (IsRw K C) H v (rows.map some) := by
  obtain ⟨p, vs, e, h, a⟩ := h
  exact ⟨p, vs, e, h, a.map fun v r hr => hr⟩
theorem pb_rows {n l : Nat} {rows : List (List (Option Rat))} (h : PB n l rows) (hn : n ≤ 100) (hl : l ≤ 900) : (rows.map some).length ≤ 900 ∧ ∀ r ∈ rows.map some, ∀ its, r = some its → its.length ≤ 900 ∧ ∀ q, some q ∈ its → Bd 100 q := by
  refine ⟨by rw [List.length_map]; exact Nat.le_trans h.len hl, fun r hr its e => ?_⟩
  obtain ⟨i, hi, rfl⟩ := List.mem_map.mp hr
  cases e
  exact ⟨Nat.le_trans (h.row its hi).1 hl, fun q hq => ((h.row its hi).2 q hq).mono hn⟩
theorem heap_bd {l : List Rat} (h : HeapOk l) : ∀ q ∈ l, Bd 21 q := fun q hq => by
  obtain ⟨S, s0, s1, sd⟩ := h.den
  exact bd_frac (h.nn q hq) (heap_le1 h hq) s0 (by omega) (sd q hq)
end

end Fb

namespace Fb
open PySem PySem.Spec PyProof.Rows L2
section
variable {P : Program} {w : World} {K : PySem.W.Frag} {mg : Str → Option Value} {base : Heap}
theorem ok_law (T : Txt K mg) : FnOk P w K mg base CX0 14 T.f_law T.d_law ["_law_script"] (spLaw K) := by
  obtain ⟨ds, hds, bds⟩ := T.e_m_Share_init
  refine T.F_law.ok sc_law (fun vs H Q E h => ?_) (fun cdv A outer s H vs Q E hr h => ?_)
  · obtain ⟨a, ns, rfl, _⟩ := h
    rfl
  · obtain ⟨a, ns, rfl, hS, hlen, q⟩ := h
    refine ⟨_, (pss_cons (ps_for PassesOwn.never rfl (pi_list (pe_op op_cat (pe_slice sl_list (pv 0) po_none (po_some pe_int)) (pe_lst (pa_cons pe_int (pa_cons pe_int pa_nil))))) (pg_name (i := 1) sc_law.nd rfl (.inl rfl))
  (pss_cons (ps_set (i := 2) sc_law.nd rfl (.inl rfl) (pe_call (ok_l_well T) (hr.mono (by decide)) (by rfl) T.g_l_well T.F_l_well.kp T.b_l_well .nil pass0 (pa_cons (pv 1) pa_nil)))
 (pss_cons (ps_set (i := 3) sc_law.nd rfl (.inl rfl) (pe_call (ok_l_one T) (hr.mono (by decide)) (by rfl) T.g_l_one T.F_l_one.kp T.b_l_one .nil pass0 (pa_cons (pv 2) (pa_cons (pe_lst (pa_cons pe_int (pa_cons pe_int (pa_cons pe_int (pa_cons pe_int pa_nil))))) pa_nil))))
 (pss_cons (ps_set (i := 4) sc_law.nd rfl (.inl rfl) (pe_call (ok_l_heap T) (hr.mono (by decide)) (by rfl) T.g_l_heap T.F_l_heap.kp T.b_l_heap .nil pass0 (pa_cons (pv 2) (pa_cons (pe_op op_add pe_int (pe_call (ok_l_draw T) (hr.mono (by decide)) (by rfl) T.g_l_draw T.F_l_draw.kp T.b_l_draw .nil pass0 (pa_cons (pv 2) (pa_cons (pv 3) pa_nil)))) pa_nil))))
 (pss_cons (ps_set (i := 5) sc_law.nd rfl (.inl rfl) (pe_call (ok_l_heap T) (hr.mono (by decide)) (by rfl) T.g_l_heap T.F_l_heap.kp T.b_l_heap .nil pass0 (pa_cons (pv 2) (pa_cons (pe_op op_add pe_int (pe_call (ok_l_draw T) (hr.mono (by decide)) (by rfl) T.g_l_draw T.F_l_draw.kp T.b_l_draw .nil pass0 (pa_cons (pv 2) (pa_cons (pv 3) pa_nil)))) pa_nil))))
 (pss_cons (ps_set (i := 6) sc_law.nd rfl (.inl rfl) (pe_call (ok_l_filled T) (hr.mono (by decide)) (by rfl) T.g_l_filled T.F_l_filled.kp T.b_l_filled .nil pass0 (pa_cons (pv 2) (pa_cons (pv 4) (pa_cons (pv 5) pa_nil)))))
 (pss_cons (ps_set (i := 7) sc_law.nd rfl (.inl rfl) (pe_tup (pa_cons (pe_call (ok_l_shares T) (hr.mono (by decide)) (by rfl) T.g_l_shares T.F_l_shares.kp T.b_l_shares .nil pass0 (pa_cons (pv 4) pa_nil)) (pa_cons (pe_call (ok_l_shares T) (hr.mono (by decide)) (by rfl) T.g_l_shares T.F_l_shares.kp T.b_l_shares .nil pass0 (pa_cons (pv 5) pa_nil)) pa_nil))))
 (pss_cons (ps_if (pt_cmpR op_notBl (pe_call (ok_p_is_plan T) (hr.mono (by decide)) (by rfl) T.g_p_is_plan T.F_p_is_plan.kp T.b_p_is_plan .nil pass0 (pa_cons (pe_call (ok_l_made T) (hr.mono (by decide)) (by rfl) T.g_l_made T.F_l_made.kp T.b_l_made .nil pass0 (pa_cons (pv 6) pa_nil)) (pa_cons (pe_ix ix_tup (pv 7) pe_int (fun _ _ => rfl)) (pa_cons (pe_ix ix_tup (pv 7) pe_int (fun _ _ => rfl)) pa_nil)))) pe_bl (nomark _))
  (pss_one (ps_ret pe_bl))
  pss_nil)
 (pss_cons (ps_for PassesOwn.never rfl (pi_range1 (by rfl) T.z_range (pa_cons pe_int pa_nil)) (pg_name (i := 8) sc_law.nd rfl (.inl rfl))
  (pss_cons (ps_set (i := 9) sc_law.nd rfl (.inl rfl) (pv 6))
 (pss_cons (ps_for PassesOwn.never rfl (pi_range1 (by rfl) T.z_range (pa_cons (pe_op op_add pe_int (pe_call (ok_l_draw T) (hr.mono (by decide)) (by rfl) T.g_l_draw T.F_l_draw.kp T.b_l_draw .nil pass0 (pa_cons (pv 2) (pa_cons pe_int pa_nil)))) pa_nil)) (pg_name (i := 10) sc_law.nd rfl (.inl rfl))
  (pss_one (ps_if (PW.pt (pw_and (pt_cmpR (op_neNil hr.units0) (pv 9) (pe_lst pa_nil) (nomark _)) (pw_and1 (pt_cmpR (op_eqNil hr.units0) (pe_lc (own := [("_law_row", 13)]) (g := (gName 13)) (tt := _) (by rfl) sc_law.nd (pi_list (pv 9)) (blkOk_by (own := [("_law_row", 13)]) (N := ["_law_script", "_law_cell", "_law_well_here", "_law_most", "_law_first", "_law_second", "_law_plan", "_law_heaps", "_law_turn", "_law_odd", "_law_k", "_law_found", "_law_strange", "_law_row"]) (sc := defScope s_law) (by decide +kernel)) (fun _ _ _ _ _ => by exact (pg_name (i := 13) sc_law.nd rfl (.inl rfl))) (fun _ _ _ _ _ => by exact (pts_one (pt_cmpR (op_eqNilK (K := K) rfl hr.units0) (pv 13) (pe_lst pa_nil) (nomark _)))) (fun _ _ _ _ _ => by exact (pv 13))) (pe_lst pa_nil) (nomark _)))))
  (pss_one (ps_set (i := 9) sc_law.nd rfl (.inl rfl) (pe_call (ok_l_otherwise T) (hr.mono (by decide)) (by rfl) T.g_l_otherwise T.F_l_otherwise.kp T.b_l_otherwise .nil pass0 (pa_cons (pv 2) (pa_cons (pv 9) pa_nil)))))
  pss_nil)))
 (pss_cons (ps_set (i := 11) sc_law.nd rfl (.inl rfl) (pe_call (ok_p_is_plan T) (hr.mono (by decide)) (by rfl) T.g_p_is_plan T.F_p_is_plan.kp T.b_p_is_plan .nil pass0 (pa_cons (pe_call (ok_l_made T) (hr.mono (by decide)) (by rfl) T.g_l_made T.F_l_made.kp T.b_l_made .nil pass0 (pa_cons (pv 9) pa_nil)) (pa_cons (pe_ix ix_tup (pv 7) pe_int (fun _ _ => rfl)) (pa_cons (pe_ix ix_tup (pv 7) pe_int (fun _ _ => rfl)) pa_nil)))))
 (pss_one (ps_if (PW.pt (pw_or (pt_not (pt_val (pe_callB call_isi (by rfl) T.z_isinstance (by decide +kernel) (pa_cons (pv 11) (pa_cons (pe_bltn (v := .ty "bool") (by rfl) T.z_bool (by decide +kernel) rfl) pa_nil))))) (pw_or1 (pt_cmpR op_ne (pv 11) (pe_call (ok_l_due T) (hr.mono (by decide)) (by rfl) T.g_l_due T.F_l_due.kp T.b_l_due .nil pass0 (pa_cons (pv 9) (pa_cons (pv 4) (pa_cons (pv 5) pa_nil)))) (nomark _)))))
  (pss_one (ps_ret pe_bl))
  pss_nil))))))
 (pss_cons (ps_set (i := 12) sc_law.nd rfl (.inl rfl) (pe_lst (pa_cons pe_non (pa_cons pe_int (pa_cons pe_str (pa_cons pe_dnewK (pa_cons (pe_tup pa_nil) (pa_cons (pe_lst (pa_cons pe_non pa_nil)) (pa_cons (pe_lst (pa_cons (pe_lst (pa_cons pe_non pa_nil)) pa_nil)) (pa_cons (pe_callTy call_tuple_of (by rfl) T.z_tuple (by decide +kernel) (pa_cons (pe_call (ok_l_made T) (hr.mono (by decide)) (by rfl) T.g_l_made T.F_l_made.kp T.b_l_made .nil pass0 (pa_cons (pv 6) pa_nil)) pa_nil)) (pa_cons (pe_make T.M_Share (ok_m_Share_init T) (hr.mono (by decide)) (by rfl) T.g_Share bds hds pass0 (pa_cons pe_int pa_nil)) pa_nil)))))))))))
 (pss_cons (ps_expr (pe_bm PySem.F.plainAttrs_list PySem.F.slot_list_append PySem.F.type_list_append mt_append (pv 12) (pa_cons (pe_lc (own := [("_law_row", 13)]) (g := (gName 13)) (tt := tYes) (by rfl) sc_law.nd (pi_list (pe_call (ok_l_made T) (hr.mono (by decide)) (by rfl) T.g_l_made T.F_l_made.kp T.b_l_made .nil pass0 (pa_cons (pv 6) pa_nil))) (blkOk_by (own := [("_law_row", 13)]) (N := ["_law_script", "_law_cell", "_law_well_here", "_law_most", "_law_first", "_law_second", "_law_plan", "_law_heaps", "_law_turn", "_law_odd", "_law_k", "_law_found", "_law_strange", "_law_row"]) (sc := defScope s_law) (by decide +kernel)) (fun _ _ _ _ _ => by exact (pg_name (i := 13) sc_law.nd rfl (.inl rfl))) (fun _ _ _ _ _ => by exact pts_nil) (fun _ _ _ _ _ => by exact (pe_callTy (call_tuple_ofK (K := K) rfl) (by rfl) T.z_tuple (by decide +kernel) (pa_cons (pv 13) pa_nil)))) pa_nil)))
 (pss_cons (ps_if (pt_cmpR op_notBl (pe_call (ok_p_is_plan T) (hr.mono (by decide)) (by rfl) T.g_p_is_plan T.F_p_is_plan.kp T.b_p_is_plan .nil pass0 (pa_cons (pe_call (ok_l_one T) (hr.mono (by decide)) (by rfl) T.g_l_one T.F_l_one.kp T.b_l_one .nil pass0 (pa_cons (pv 2) (pa_cons (pv 12) pa_nil))) (pa_cons (pe_ix ix_tup (pv 7) pe_int (fun _ _ => rfl)) (pa_cons (pe_ix ix_tup (pv 7) pe_int (fun _ _ => rfl)) pa_nil)))) pe_bl (nomark _))
  (pss_one (ps_ret pe_bl))
  pss_nil)
 (pss_one (ps_if (pt_cmpR (op_neB (rcB_tupN (eqB_list ((RcB.imp (rcB_ins (C := T.c_Share) (ok_m_Share_eq T) T.h_m_Share_eq.at_ T.h_m_Share_eq.fn T.b_m_Share_eq) (dsh_ins T.c_Share)).eqB (dsh_ref T.c_Share) (dsh_refl T.c_Share)) (dsh_refl T.c_Share))) (hr.mono (by decide))) (pv 7) (pe_tup (pa_cons (pe_call (ok_l_shares T) (hr.mono (by decide)) (by rfl) T.g_l_shares T.F_l_shares.kp T.b_l_shares .nil pass0 (pa_cons (pv 4) pa_nil)) (pa_cons (pe_call (ok_l_shares T) (hr.mono (by decide)) (by rfl) T.g_l_shares T.F_l_shares.kp T.b_l_shares .nil pass0 (pa_cons (pv 5) pa_nil)) pa_nil))) (nomark _))
  (pss_one (ps_ret pe_bl))
  pss_nil))))))))))))))
 (pss_one (ps_ret pe_bl))), ?_⟩
    refine ⟨_, rfl, 6, rfl, a, _, rfl, hS, fun c1 n1 => ?_⟩
    refine ⟨by show 2 ≤ sizeLine; decide, fun c2 n2 => ?_⟩
    have ne12 : c1 ≠ c2 := fun z => by
      rw [← z, upd_same] at n2
      cases n2
    refine ⟨c1, c2, _, _, rfl, rfl, by rw [upd_ne ne12]; exact upd_same, upd_same, ?_, fun c3 n3 => ?_⟩
    · have := cutV_length (ns.map V.int) none (some 6)
      rw [List.length_map] at this
      exact Nat.le_of_lt (small1000 (by show _ + 2 ≤ 1000; omega))
    generalize hH0 : upd (upd (upd H c1 (.lst (cutV (ns.map V.int) none (some 6)))) c2 (.lst [.int 0, .int 1])) c3 (.lst (cutV (ns.map V.int) none (some 6) ++ [.int 0, .int 1])) = H0
    have hc3 : H0 c3 = some (.lst (cutV (ns.map V.int) none (some 6) ++ [.int 0, .int 1])) := by
      rw [← hH0]
      exact upd_same
    refine ⟨c3, rfl, ⟨_, SqL.of hc3⟩, for_list (K := K) (a := c3) (xs := cutV (ns.map V.int) none (some 6) ++ [.int 0, .int 1])
      (fun i σ H' => ∃ y1 y2 y3 y4 y5 y6 y7 y8 y9 y10 y11 y12 y13, σ = [some (.ref a), y1, y2, y3, y4, y5, y6, y7, y8, y9, y10, y11, y12, y13] ∧ Same H0 H') ⟨_, _, _, _, _, _, _, _, _, _, _, _, _, rfl, Same.refl _⟩ (fun i σ H' _ h => ?_) (fun i x σ H' hx h => ?_) (fun σ H' h => ?_)⟩
    · obtain ⟨_, _, _, _, _, _, _, _, _, _, _, _, _, _, s0⟩ := h
      exact s0.seq (SqL.of hc3)
    · obtain ⟨y1, y2, y3, y4, y5, y6, y7, y8, y9, y10, y11, y12, y13, rfl, s0⟩ := h
      obtain ⟨z, rfl⟩ := cells_int (more := [0, 1]) hx
      refine ⟨_, rfl, z, rfl, fun aw H1 nA sA wA => ?_⟩
      have w1 := wA.mono (show 1000 ≤ 1099511627776 by decide)
      refine ⟨_, rfl, by show 4 ≤ sizeLine; decide, fun p1 n1 => ?_⟩
      obtain ⟨w2, s2⟩ := well_new (o := .lst [.int 4, .int 4, .int 4, .int 12]) w1 n1
      refine ⟨aw, p1, _, 999, rfl, w2, sqL_hid w1 n1, by decide, by decide, fun i2 x2 H2 hx2 s3 w3 => ?_⟩
      obtain ⟨mo, rfl, mo0, mo1⟩ : ∃ mo : Nat, x2 = .int mo ∧ 0 < mo ∧ mo ≤ 12 := by
        rcases mem4 hx2 with e | e | e | e
        · exact ⟨4, e, by decide, by decide⟩
        · exact ⟨4, e, by decide, by decide⟩
        · exact ⟨4, e, by decide, by decide⟩
        · exact ⟨12, e, by decide, by decide⟩
      have sB : Same H0 (hid aw H2) := s0.trans (sA.trans (s2.trans s3))
      -- two heaps
      refine ⟨_, rfl, _, rfl, _, rfl, aw, mo, 998, rfl, w3, by omega, log_small (by omega), fun d H3 d0 d1 s4 w4 => ⟨_, _, rfl, rfl, ?_⟩⟩
      refine ⟨aw, (1 + d).toNat, 900, by show [V.ref aw, V.int (1 + d)] = _; rw [Int.toNat_of_nonneg (by omega)], w4.mono (by decide), by omega, by omega, fun H4 pf pl nf s5 w5 hpl lpl okp => ?_⟩
      refine ⟨_, rfl, _, rfl, _, rfl, aw, mo, 899, rfl, w5, by omega, log_small (by omega), fun d' H5 d0' d1' s6 w6 => ⟨_, _, rfl, rfl, ?_⟩⟩
      refine ⟨aw, (1 + d').toNat, 800, by show [V.ref aw, V.int (1 + d')] = _; rw [Int.toNat_of_nonneg (by omega)], w6.mono (by decide), by omega, by omega, fun H6 pg ql ng s7 w7 hql lql okq => ?_⟩
      have hpl := hpl.mono (s6.trans s7)
      have m12 : pl.length ≤ 12 := by omega
      have k12 : ql.length ≤ 12 := by omega
      refine ⟨_, rfl, _, rfl, _, rfl, aw, _, _, pl, ql, 600, rfl, w7.mono (by decide), hpl, hql, okp, okq, m12, k12, fun H7 pp Tb np s8 w8 htb ok => ?_⟩
      have hpl := hpl.mono s8
      have hql := hql.mono s8
      have sC : Same H0 (hid aw H7) := sB.trans (s4.trans (s5.trans (s6.trans (s7.trans s8))))
      -- their shares
      have bp : ∀ q ∈ pl, Bd 9000 q := fun q hq => (heap_bd okp q hq).mono (by decide)
      have bq : ∀ q ∈ ql, Bd 9000 q := fun q hq => (heap_bd okq q hq).mono (by decide)
      refine ⟨_, rfl, _, pl, rfl, hpl.mono hid_same, bp, by omega, fun H8 r8 n8 s9 h8 => ?_⟩
      refine ⟨_, rfl, _, ql, rfl, hql.mono (hid_same.trans s9), bq, by omega, fun H9 r9 n9 s10 h9 => ?_⟩
      refine ⟨by show 2 ≤ sizeLine; decide, fun ph nph => ?_⟩
      have s11 := same_upd (o := .tup [.ref r8, .ref r9]) nph
      have w11 := ((w8.same s9).same s10).same s11
      have e11 : (upd H9 ph (.tup [.ref r8, .ref r9])) ph = some (.tup [.ref r8, .ref r9]) := upd_same
      have h8 := (h8.mono s10).mono s11
      have h9 := h9.mono s11
      have s711 : Same H7 (upd H9 ph (.tup [.ref r8, .ref r9])) := s9.trans (s10.trans s11)
      generalize upd H9 ph (.tup [.ref r8, .ref r9]) = HA at *
      have na8 : r8 ≠ aw := w8.ne n8
      have na9 : r9 ≠ aw := (w8.same s9).ne n9
      have eW : ∀ {G : Hp} {n}, WellAt G aw n → ∃ ys, G aw = some (.lst ys) := fun h => by
        obtain ⟨_, _, _, e, _⟩ := h
        exact ⟨_, e⟩
      have naph : ph ≠ aw := fun z => by
        obtain ⟨ys, e⟩ := eW w11
        rw [← z, e11] at e
        cases e
      -- what stays to the end of the turn
      have base : Same (hid aw H7) (hid aw HA) := hid_mono s711
      have F1 : IsPrs (hid aw HA) (.ref pf) pl := hpl.mono base
      have F2 : IsPrs (hid aw HA) (.ref pg) ql := hql.mono base
      have F3 : IsPl (hid aw HA) (.ref pp) (somes (tblOf pl.length ql.length Tb)) := pl_of_tbl (htb.mono (fun _ _ _ _ s h => h.mono s) base)
      have F4 : IsShares T.c_Share (hid aw HA) (.ref r8) pl := h8.hidN na8 (eW w11)
      have F5 : IsShares T.c_Share (hid aw HA) (.ref r9) ql := h9.hidN na9 (eW w11)
      have F6 : hid aw HA ph = some (.tup [.ref r8, .ref r9]) := by rw [hid_ne naph]; exact e11
      have sD : Same H0 (hid aw HA) := sC.trans base
      have PB0 := pb_tbl ok m12 k12
      clear hpl hql htb h8 h9 s711 base e11
      -- is_plan of a made plan
      have look : ∀ {G : Hp}, Same (hid aw HA) G → SqT K G ph [.ref r8, .ref r9] := fun s => .inl (.inl (s _ _ F6))
      refine ⟨_, rfl, _, _, rfl, F3.mono hid_same, PB0.mono (by decide) (by decide), fun HB pm npm sM hM => ?_⟩
      have sAB : Same (hid aw HA) HB := hid_same.trans sM
      refine ⟨_, rfl, ph, _, _, _, rfl, rfl, look sAB, atI_nat (j := 0) rfl, _, rfl, ph, _, _, _, rfl, rfl, look sAB, atI_nat (j := 1) rfl, ?_⟩
      refine ⟨_, _, _, pl, ql, rfl, F4.mono sAB, F5.mono sAB, m12, k12, .inr ⟨_, rw_of hM, (pb_rows PB0 (by decide) (by decide)).1, (pb_rows PB0 (by decide) (by decide)).2, fun HC sN => ⟨_, true, rfl, rfl, _, rfl, ?_⟩⟩⟩
      rw [plan_true ok]
      refine iteF ?_
      have sE : Same (hid aw HA) (hid aw HC) := hid_mono (sM.trans sN)
      have wC : WellAt HC aw 600 := w11.same (sM.trans sN)
      -- three turns
      refine ⟨3, rfl, by decide, by decide, for_range (fun i σ H' => ∃ y8 y9 y10 y11 y12 y13, σ = [some (.ref a), some (.int z), some (.ref aw), some (.int mo), some (.ref pf), some (.ref pg), some (.ref pp), some (.ref ph), y8, y9, y10, y11, y12, y13] ∧ Same (hid aw HA) (hid aw H') ∧ WellAt H' aw (600 - 20 * i)) ⟨_, _, _, _, _, _, rfl, sE, wC⟩ (fun i σ H' hi h => ?_) (fun σ H' h => ?_)⟩
      · obtain ⟨y8, y9, y10, y11, y12, y13, rfl, sF, wF⟩ := h
        have hi3 : i < 3 := hi
        refine ⟨_, rfl, ?_⟩
        refine ⟨_, rfl, aw, 2, 600 - 20 * i - 1, rfl, wF.mono (by omega), by decide, log_small (m := 2) (by decide), fun d2 H2 e0 e1 s2 w2 => ⟨_, _, rfl, rfl, _, rfl, by omega, by omega, ?_⟩⟩
        refine for_range (fun j σ H' => ∃ u rows y10 y11 y12 y13, σ = [some (.ref a), some (.int z), some (.ref aw), some (.int mo), some (.ref pf), some (.ref pg), some (.ref pp), some (.ref ph), some (.int (0 + (i : Int))), some u, y10, y11, y12, y13] ∧ Same (hid aw HA) (hid aw H') ∧ WellAt H' aw (600 - 20 * i - 1 - 6 * j) ∧ IsPl (hid aw H') u rows ∧ PB (21 + 20 * j) (12 + j) rows) ⟨_, _, _, _, _, _, rfl, sF.trans s2, w2, F3.mono (sF.trans s2), PB0⟩ (fun j σ H3 hj h => ?_) (fun σ H3 h => ?_)
        · obtain ⟨u, rows, y10, y11, y12, y13, rfl, sG, wG, hu, pbu⟩ := h
          have hj2 : j < 2 := by omega
          obtain ⟨pu, ws, rfl, hpu, aau⟩ := id hu
          have keep : ∀ {σ' : L2.St} {H4 : Hp}, Same H3 H4 → (∃ y13, σ' = [some (.ref a), some (.int z), some (.ref aw), some (.int mo), some (.ref pf), some (.ref pg), some (.ref pp), some (.ref ph), some (.int (0 + (i : Int))), some (.ref pu), some (.int (0 + (j : Int))), y11, y12, y13]) → ∃ u rows y10 y11 y12 y13, σ' = [some (.ref a), some (.int z), some (.ref aw), some (.int mo), some (.ref pf), some (.ref pg), some (.ref pp), some (.ref ph), some (.int (0 + (i : Int))), some u, y10, y11, y12, y13] ∧ Same (hid aw HA) (hid aw H4) ∧ WellAt H4 aw (600 - 20 * i - 1 - 6 * (j + 1)) ∧ IsPl (hid aw H4) u rows ∧ PB (21 + 20 * (j + 1)) (12 + (j + 1)) rows := fun s' hσ => by
            obtain ⟨y13', rfl⟩ := hσ
            exact ⟨_, rows, _, _, _, _, rfl, sG.trans (hid_mono s'), (wG.same s').mono (by omega), hu.mono (hid_mono s'), pbu.mono (by omega) (by omega)⟩
          refine ⟨_, rfl, Nat.zero_le _, fun e0 n0 => ?_⟩
          have t0 := same_upd (o := .lst []) n0
          refine ⟨pu, e0, ws, rfl, rfl, SqL.of (t0 _ _ (hid_same _ _ hpu)), sqL_new, _, rfl, ite2 (fun hb => ?_) (fun hb => ?_)⟩
          · have hw : ws ≠ [] := fun zz => by
              rw [zz] at hb
              exact absurd hb (by simp)
            generalize upd H3 e0 (.lst []) = H4 at *
            have hpu4 := t0 _ _ (hid_same _ _ hpu)
            refine ⟨_, rfl, pu, rfl, ⟨_, SqL.of hpu4⟩, fun D nD => lc_some (K := K) (a := pu) (xs := ws) (fun i => (rows[i]?.getD [none]).isEmpty) nD (SqL.of hpu4) (by rw [aau.1]; have := pbu.len; omega) (fun i6 x6 H6 kt kf hi6 s6 ht hf' => ?_) (fun H6 ys s6 e6 l6 => ?_)⟩
            · obtain ⟨its, hits, hx6⟩ := aau.at hi6
              obtain ⟨pr, rvs, rfl, er, ar⟩ := IsPRow.mono (hid_same.trans (t0.trans s6)) hx6
              rw [hits] at ht hf'
              simp only [Option.getD_some] at ht hf'
              refine ⟨rfl, _, rfl, Nat.zero_le _, fun e1 n1 => ?_⟩
              have t1 := same_upd (o := .lst []) n1
              refine ⟨pr, e1, rvs, rfl, rfl, SqL.of (t1 _ _ er), sqL_new, _, rfl, ?_⟩
              have eE : rvs.isEmpty = its.isEmpty := by
                have := ar.1
                cases rvs <;> cases its <;> simp_all
              show if rvs.isEmpty = true then _ else _
              rw [eE]
              refine ite2 (fun hb => ?_) (fun hb => ?_)
              · exact ⟨_, rfl, ht hb _ _ t1⟩
              · exact hf' (by simpa using hb) _ t1
            · have s46 : Same H4 H6 := s6.trans hid_same
              refine ⟨Nat.zero_le _, fun e2 n2 => ?_⟩
              have t2 := same_upd (o := .lst []) n2
              refine ⟨D, e2, ys, rfl, rfl, SqL.of (t2 _ _ e6), sqL_new, _, rfl, ite2 (fun hb2 => ?_) (fun hb2 => ?_)⟩
              · have sall := t0.trans (s46.trans t2)
                have he : ys.isEmpty = true := hb2
                rw [l6, List.all_eq_true] at he
                refine ⟨_, rfl, _, rfl, aw, _, rows, 21 + 20 * j, 12 + j, 600 - 20 * i - 1 - 6 * (j + 1), rfl, (wG.same sall).mono (by omega), hu.mono (hid_mono sall), pbu, ?_, fun its hi => ?_, by omega, by omega, fun H8 u8 rows8 s8 w8 h8 pb8 => ?_⟩
                · intro zz
                  rw [zz] at aau
                  exact hw (List.length_eq_zero_iff.mp aau.1)
                · obtain ⟨c, hc⟩ := List.mem_iff_getElem?.mp hi
                  have := he c (by rw [List.mem_range, aau.1]; exact (List.getElem?_eq_some_iff.mp hc).1)
                  rw [hc] at this
                  intro zz
                  rw [zz] at this
                  cases this
                · exact ⟨_, rows8, _, _, _, _, rfl, sG.trans ((hid_mono sall).trans s8), w8, h8, pb8.mono (by omega) (by omega)⟩
              · exact keep (t0.trans (s46.trans t2)) ⟨_, rfl⟩
          · exact keep t0 ⟨_, rfl⟩
        · obtain ⟨u, rows, y10, y11, y12, y13, rfl, sG, wG, hu, pbu⟩ := h
          have j2 : (1 + d2).toNat ≤ 2 := by omega
          have pbu := pbu.mono (show _ ≤ 100 by omega) (show _ ≤ 100 by omega)
          refine ⟨_, rfl, _, _, rfl, hu.mono hid_same, pbu.mono (by decide) (by decide), fun H4 pm npm s4 hM => ?_⟩
          have sH : Same (hid aw HA) H4 := sG.trans (hid_same.trans s4)
          refine ⟨_, rfl, ph, _, _, _, rfl, rfl, look sH, atI_nat (j := 0) rfl, _, rfl, ph, _, _, _, rfl, rfl, look sH, atI_nat (j := 1) rfl, ?_⟩
          refine ⟨_, _, _, pl, ql, rfl, F4.mono sH, F5.mono sH, m12, k12, .inr ⟨_, rw_of hM, (pb_rows pbu (by decide) (by decide)).1, (pb_rows pbu (by decide) (by decide)).2, fun H5 s5 => ?_⟩⟩
          refine ⟨_, rfl, _, _, _, _, true, rfl, .ty _, .base (.bl _), kit_ty (by decide +kernel), true, rfl, iteF ?_⟩
          have s35 := s4.trans s5
          have sI : Same (hid aw HA) H5 := sH.trans s5
          refine ⟨_, rfl, _, rfl, _, rfl, _, rfl, _, _, _, rows, pl, ql, rfl, hu.mono (hid_same.trans s35), pbu, F1.mono sI, F2.mono sI, m12, k12, fun H6 s6 => ⟨rfl, _, rfl, ?_⟩⟩
          rw [decide_eq_true rfl]
          refine iteF ⟨_, _, _, _, _, _, rfl, sG.trans (hid_mono (s35.trans s6)), (wG.same (s35.trans s6)).mono (by omega)⟩
      · obtain ⟨y8, y9, y10, y11, y12, y13, rfl, sF, wF⟩ := h
        -- strange things
        have rows0 := F3.mono sF
        intro pd npd
        have t1 := same_upd (o := .dK []) npd
        refine ⟨Nat.zero_le _, fun pt npt => ?_⟩
        have t2 := same_upd (o := .tup []) npt
        refine ⟨by show 1 ≤ sizeLine; decide, fun l1 k1 => ?_⟩
        have t3 := same_upd (o := .lst [.non]) k1
        refine ⟨by show 1 ≤ sizeLine; decide, fun l2 k2 => ⟨by show 1 ≤ sizeLine; decide, fun l3 k3 => ?_⟩⟩
        have t4 := same_upd (o := .lst [.non]) k2
        have t5 := same_upd (o := .lst [.ref l2]) k3
        have t15 := t1.trans (t2.trans (t3.trans (t4.trans t5)))
        refine ⟨_, rfl, _, _, rfl, rows0.mono (hid_same.trans t15), PB0.mono (by decide) (by decide), fun H4 pm npm t6 hM => ?_⟩
        obtain ⟨_, mvs, em, hpm, _⟩ := hM
        cases em
        refine ⟨pm, mvs, rfl, .inl ⟨SqL.of hpm, fun lt nlt => ?_⟩⟩
        have t7 := same_upd (o := .tup mvs) nlt
        refine mk_share (b := 1) (by decide) (by decide) fun H5 rs t8 h8 => ?_
        refine ⟨by show 9 ≤ sizeLine; decide, fun ls nls => ?_⟩
        have t9 := same_upd (o := .lst [.non, .int 7, .str "plan", .ref pd, .ref pt, .ref l1, .ref l3, .ref lt, .ref rs]) nls
        have x1 : H5 pd = some (.dK []) := t8 _ _ (t7 _ _ (t6 _ _ (t5 _ _ (t4 _ _ (t3 _ _ (t2 _ _ upd_same))))))
        have x2 : H5 pt = some (.tup []) := t8 _ _ (t7 _ _ (t6 _ _ (t5 _ _ (t4 _ _ (t3 _ _ upd_same)))))
        have x3 : H5 l1 = some (.lst [.non]) := t8 _ _ (t7 _ _ (t6 _ _ (t5 _ _ (t4 _ _ upd_same))))
        have x4 : H5 l2 = some (.lst [.non]) := t8 _ _ (t7 _ _ (t6 _ _ (t5 _ _ upd_same)))
        have x5 : H5 l3 = some (.lst [.ref l2]) := t8 _ _ (t7 _ _ (t6 _ _ upd_same))
        have x6 : H5 lt = some (.tup mvs) := t8 _ _ upd_same
        have sH5 : Same H' H5 := t15.trans (t6.trans (t7.trans t8))
        have xs0 : (upd H5 ls (.lst [.non, .int 7, .str "plan", .ref pd, .ref pt, .ref l1, .ref l3, .ref lt, .ref rs])) ls = some (.lst [.non, .int 7, .str "plan", .ref pd, .ref pt, .ref l1, .ref l3, .ref lt, .ref rs]) := upd_same
        generalize upd H5 ls (.lst [.non, .int 7, .str "plan", .ref pd, .ref pt, .ref l1, .ref l3, .ref lt, .ref rs]) = H6 at *
        have sH6 : Same H' H6 := sH5.trans t9
        -- one more
        refine ⟨_, rfl, .inl ⟨rfl, _, SqL.of xs0⟩, _, rfl, _, _, rfl, rows0.mono (hid_same.trans sH6), PB0.mono (by decide) (by decide), fun H7 pn npn t10 hN => ?_⟩
        obtain ⟨_, nvs, en, hpn, an⟩ := hN
        cases en
        refine ⟨pn, rfl, ⟨_, SqL.of hpn⟩, fun D nD => lc_all (K := K) (a := pn) (xs := nvs) (fun i y G => ∃ l vs, y = .ref l ∧ G l = some (.tup vs)) (fun _ _ _ _ s h => h.elim fun l h => h.elim fun vs h => ⟨l, vs, h.1, s _ _ h.2⟩) nD (SqL.of hpn) (by rw [an.1]; have := PB0.len; omega) (fun i7 x7 H8 k7 hi7 s7 eD hk => ?_) (fun H8 ys s7 e8 l8 r8' => ?_)⟩
        · obtain ⟨its, hits, hx7⟩ := an.at hi7
          obtain ⟨pr, rvs, rfl, er, _⟩ := IsL.mono (R := IsMd T.c_Share) (fun _ _ _ _ s h => IsMd.mono s h) (s7.trans hid_same) hx7
          refine ⟨rfl, _, rfl, pr, rvs, rfl, .inl ⟨SqL.of er, fun l9 n9 => ?_⟩⟩
          have st := same_upd (o := .tup rvs) n9
          refine hk _ _ st ⟨l9, rvs, rfl, hid_no ?_ upd_same (fun _ => nofun)⟩
          obtain ⟨ys', e'⟩ := eD
          exact ⟨ys', st _ _ e'⟩
        · have t11 : Same H6 H8 := t10.trans (s7.trans hid_same)
          have xs8 := t11 _ _ xs0
          refine ⟨ls, _, _, rfl, rfl, xs8, small1000 (by show 9 ≤ 1000; decide), ?_⟩
          have lsD : ls ≠ D := fun zz => by
            have := (t10.trans (Same.refl _)) _ _ xs0
            rw [zz, nD] at this
            cases this
          have nlsHA : ∀ b o, H5 b = some o → b ≠ ls := fun b o e zz => by
            rw [zz, nls] at e
            cases e
          have wl : ls ≠ aw := fun zz => by
            obtain ⟨yy, ee⟩ := eW wF
            exact nlsHA aw _ (sH5 _ _ ee) zz.symm
          have w8 : WellAt H8 aw 540 := (wF.same (sH6.trans t11)).mono (by decide)
          generalize hX : ([V.non, .int 7, .str "plan", .ref pd, .ref pt, .ref l1, .ref l3, .ref lt, .ref rs] ++ [V.ref D]) = xs10
          have wU : WellAt (upd H8 ls (.lst xs10)) aw 540 := w8.upd wl
          have up5 : ∀ b o, H5 b = some o → b ≠ aw → hid aw (upd H8 ls (.lst xs10)) b = some o := fun b o e hb => by
            rw [hid_ne hb, upd_ne (nlsHA b o e)]
            exact t11 _ _ (t9 _ _ e)
          have sJ : Same (hid aw HA) (hid aw (upd H8 ls (.lst xs10))) := fun b o e => by
            have hb : b ≠ aw := fun zz => by
              rw [zz] at e
              simp [hid] at e
            exact up5 b o (sH5 _ _ (hid_same _ _ (sF _ _ e))) hb
          have naw : ∀ {b o}, H5 b = some o → (∀ xs, o ≠ .lst xs) → b ≠ aw := fun {b o} e ho zz => by
            obtain ⟨yy, ee⟩ := eW (wF.same sH5)
            rw [zz, ee] at e
            cases e
            exact ho _ rfl
          have new : ∀ {b : Addr}, H' b = none → b ≠ aw := fun {b} e zz => by
            obtain ⟨yy, ee⟩ := eW wF
            rw [zz, ee] at e
            cases e
          have na1 : l1 ≠ aw := (wF.same (t1.trans t2)).ne k1
          have na2 : l2 ≠ aw := (wF.same (t1.trans (t2.trans t3))).ne k2
          have na3 : l3 ≠ aw := (wF.same (t1.trans (t2.trans (t3.trans t4)))).ne k3
          have naD : D ≠ aw := (wF.same (sH6.trans t10)).ne nD
          have dD : hid aw (upd H8 ls (.lst xs10)) D = some (.lst ys) := by
            rw [hid_ne naD, upd_ne lsD.symm]
            exact e8
          have dY : ∀ (i : Nat) y, ys[i]? = some y → ∃ l vs, y = .ref l ∧ hid aw (upd H8 ls (.lst xs10)) l = some (.tup vs) := fun i y hy => by
            obtain ⟨l, vs, e, h⟩ := r8' i y hy
            have h := hid_same _ _ h
            have n1 : l ≠ aw := fun zz => by
              obtain ⟨yy, ee⟩ := eW w8
              rw [zz, ee] at h
              cases h
            have n2 : l ≠ ls := fun zz => by
              rw [zz, xs8] at h
              cases h
            exact ⟨l, vs, e, by rw [hid_ne n1, upd_ne n2]; exact h⟩
          refine ⟨_, rfl, _, rfl, aw, ls, xs10, 539, rfl, wU, by rw [hid_updN wl]; exact sqL_new, by rw [← hX]; show 0 < 10; decide, by rw [← hX]; show 10 ≤ 1000; decide, fun i9 x9 H9 hx9 s9 w9 => ?_⟩
          have sK : Same (hid aw HA) H9 := sJ.trans (s9.trans hid_same)
          have sK5 : ∀ b o, H5 b = some o → b ≠ aw → H9 b = some o := fun b o e hb => hid_same _ _ (s9 _ _ (up5 b o e hb))
          refine ⟨_, rfl, ph, _, _, _, rfl, rfl, look sK, atI_nat (j := 0) rfl, _, rfl, ph, _, _, _, rfl, rfl, look sK, atI_nat (j := 1) rfl, ?_⟩
          have fact : NoList K H9 x9 ∨ ∃ rs : List Row, IsL (IsRw K T.c_Share) H9 x9 rs ∧ rs.length ≤ 900 ∧ (∀ r ∈ rs, ∀ its, r = some its → its.length ≤ 900 ∧ ∀ q, some q ∈ its → Bd 100 q) ∧ planB rs pl ql = false := by
            have hm := List.mem_of_getElem? hx9
            rw [← hX] at hm
            simp only [List.cons_append, List.nil_append, List.mem_cons, List.not_mem_nil, or_false] at hm
            have bad : ∀ {rs : List Row} {r : Row}, r ∈ rs → onRow amOk ql.length r = false → planB rs pl ql = false := fun {rs r} hr h => by
              cases e : planB rs pl ql with
              | false => rfl
              | true =>
                unfold planB at e
                have := (tabOk_all (Bool.and_eq_true_iff.mp e).1).2 r hr
                rw [h] at this
                cases this
            rcases hm with rfl | rfl | rfl | rfl | rfl | rfl | rfl | rfl | rfl | rfl
            · exact .inl ⟨_, .base .non, kit_ty (by decide +kernel)⟩
            · exact .inl ⟨_, .base (.int _), kit_ty (by decide +kernel)⟩
            · exact .inl ⟨_, .base (.str _), kit_ty (by decide +kernel)⟩
            · exact .inl ⟨_, .base (.dK (sK5 _ _ x1 (naw x1 fun _ => nofun))), kit_ty (by decide +kernel)⟩
            · exact .inl ⟨_, .base (.tup (sK5 _ _ x2 (naw x2 fun _ => nofun))), kit_ty (by decide +kernel)⟩
            · refine .inr ⟨[none], ⟨l1, _, rfl, sK5 _ _ x3 na1, .cons ⟨_, .base .non, kit_ty (by decide +kernel)⟩ .nil⟩, by decide, fun r hr its e => ?_, bad (r := none) (by simp) rfl⟩
              have : r = none := by simpa using hr
              rw [this] at e
              cases e
            · refine .inr ⟨[some [none]], ⟨l3, _, rfl, sK5 _ _ x5 na3, .cons ⟨l2, _, rfl, sK5 _ _ x4 na2, .cons (.inr (.inl rfl)) .nil⟩ .nil⟩, by decide, fun r hr its e => ?_, bad (r := some [none]) (by simp) ?_⟩
              · have : r = some [none] := by simpa using hr
                rw [this] at e
                cases e
                exact ⟨by decide, fun q hq => by simp at hq⟩
              · simp [onRow, amOk, shOk]
            · exact .inl ⟨_, .base (.tup (sK5 _ _ x6 (naw x6 fun _ => nofun))), kit_ty (by decide +kernel)⟩
            · obtain ⟨px, dx, e, hx⟩ := h8
              cases e
              exact .inl ⟨_, tyShare T (sK5 _ _ hx (naw hx fun _ => nofun)), T.kit_Share_list⟩
            · have ly : ys.length = pl.length := by
                rw [l8, an.1]
                simp [somes, tblOf]
              refine .inr ⟨ys.map fun _ => none, ⟨D, ys, rfl, hid_same _ _ (s9 _ _ dD), ⟨by simp, fun i v r hv hr => ?_⟩⟩, by rw [List.length_map]; omega, fun r hr its e => ?_, bad (r := none) ?_ rfl⟩
              · rw [List.getElem?_map, hv] at hr
                cases hr
                obtain ⟨l, vs, rfl, h⟩ := dY i v hv
                exact ⟨_, .base (.tup (hid_same _ _ (s9 _ _ h))), kit_ty (by decide +kernel)⟩
              · obtain ⟨_, _, e'⟩ := List.mem_map.mp hr
                rw [← e'] at e
                cases e
              · cases hys : ys with
                | nil =>
                  rw [hys] at ly
                  simp at ly
                  omega
                | cons y r => simp
          refine ⟨_, _, _, pl, ql, rfl, F4.mono sK, F5.mono sK, m12, k12, ?_⟩
          rcases fact with no | ⟨rr, f1, f2, f3, f4⟩
          refine .inl ⟨no, fun H10 sZ => ⟨_, false, rfl, rfl, _, rfl, iteF ?_⟩⟩
          rotate_left
          refine .inr ⟨rr, f1, f2, f3, fun H10 sZ => ⟨_, false, rfl, rfl, _, rfl, ?_⟩⟩
          rw [f4]
          refine iteF ?_
          all_goals (
            have sL : Same (hid aw HA) H10 := sK.trans sZ
            refine ⟨_, rfl, _, rfl, _, pl, rfl, F1.mono sL, bp, by omega, fun H11 q1 m1 s11 g1 => ?_⟩
            refine ⟨_, rfl, _, ql, rfl, F2.mono (sL.trans s11), bq, by omega, fun H12 q2 m2 s12 g2 => ?_⟩
            refine ⟨by show 2 ≤ sizeLine; decide, fun p3 n3 => ?_⟩
            have s13 := same_upd (o := .tup [.ref q1, .ref q2]) n3
            have sM' := sL.trans (s11.trans (s12.trans s13))
            have d1 : DListB (DSh T.c_Share) (.ref r8) (.ref q1) true (upd H12 p3 (.tup [.ref q1, .ref q2])) := by
              have := dlist_of (F4.mono sM') ((g1.mono s12).mono s13) rfl
              rwa [decide_eq_true rfl] at this
            have d2 : DListB (DSh T.c_Share) (.ref r9) (.ref q2) true (upd H12 p3 (.tup [.ref q1, .ref q2])) := by
              have := dlist_of (F5.mono sM') (g2.mono s13) rfl
              rwa [decide_eq_true rfl] at this
            refine ⟨true, ⟨ph, p3, _, _, rfl, rfl, look sM', .inl (.inl upd_same), rfl, fun i x y hx hy => ?_, rfl⟩, _, rfl, iteF ⟨_, _, _, _, _, _, _, _, _, _, _, _, _, rfl, sD.trans sM'⟩⟩
            match i, hx, hy with
            | 0, hx, hy =>
              cases hx
              cases hy
              exact d1
            | 1, hx, hy =>
              cases hx
              cases hy
              exact d2
            | (n + 2), hx, _ => cases hx)
    · obtain ⟨_, _, _, _, _, _, _, _, _, _, _, _, _, rfl, _⟩ := h
      exact q _
end

end Fb

namespace Fb
open PySem PySem.Spec PyProof.Rows L2
set_option maxHeartbeats 4000000 in
theorem all_mk {l : PySem.W.OpenLaw} {w : World} {K : PySem.W.Frag} {h : Heap} {mg : Str → Option Value} {fa : Addr} (X : K.In h) (G : h.Ns mainGlobals mg) (hfa : mg "law" = some (.ref fa))
    {c_FarError c_NoShare c_Share f_p_written f_p_is_whole f_m_Share_init t_m_Share_init f_m_Share_eq f_m_Share_str f_p_common_part f_p_common_multiple f_p_common_bottom f_p_tops_over f_p_sum_of f_p_are_shares f_p_are_amounts f_p_is_table f_p_is_plan f_l_well f_l_draw f_l_one f_l_low f_l_heap f_l_shares f_l_added f_l_total f_l_below f_l_filled f_l_otherwise f_l_made f_l_due f_law : Addr} {od_p_written an_p_written od_p_is_whole an_p_is_whole od_m_Share_init an_m_Share_init odt_m_Share_init od_m_Share_eq an_m_Share_eq od_m_Share_str an_m_Share_str od_p_common_part an_p_common_part od_p_common_multiple an_p_common_multiple od_p_common_bottom an_p_common_bottom od_p_tops_over an_p_tops_over od_p_sum_of an_p_sum_of od_p_are_shares an_p_are_shares od_p_are_amounts an_p_are_amounts od_p_is_table an_p_is_table od_p_is_plan an_p_is_plan od_l_well an_l_well od_l_draw an_l_draw od_l_one an_l_one od_l_low an_l_low od_l_heap an_l_heap od_l_shares an_l_shares od_l_added an_l_added od_l_total an_l_total od_l_below an_l_below od_l_filled an_l_filled od_l_otherwise an_l_otherwise od_l_made an_l_made od_l_due an_l_due od_law an_law : Option Addr} {sl_p_written sl_p_is_whole sl_m_Share_init slt_m_Share_init sl_m_Share_eq sl_m_Share_str sl_p_common_part sl_p_common_multiple sl_p_common_bottom sl_p_tops_over sl_p_sum_of sl_p_are_shares sl_p_are_amounts sl_p_is_table sl_p_is_plan sl_l_well sl_l_draw sl_l_one sl_l_low sl_l_heap sl_l_shares sl_l_added sl_l_total sl_l_below sl_l_filled sl_l_otherwise sl_l_made sl_l_due sl_law : Array (Option Value)} {oc_p_written kV_p_written dc_p_written pm_p_written cd_p_written ct_p_written oc_p_is_whole kV_p_is_whole dc_p_is_whole pm_p_is_whole cd_p_is_whole ct_p_is_whole oc_m_Share_init kV_m_Share_init dc_m_Share_init pm_m_Share_init cd_m_Share_init ct_m_Share_init oct_m_Share_init oc_m_Share_eq kV_m_Share_eq dc_m_Share_eq pm_m_Share_eq cd_m_Share_eq ct_m_Share_eq oc_m_Share_str kV_m_Share_str dc_m_Share_str pm_m_Share_str cd_m_Share_str ct_m_Share_str oc_p_common_part kV_p_common_part dc_p_common_part pm_p_common_part cd_p_common_part ct_p_common_part oc_p_common_multiple kV_p_common_multiple dc_p_common_multiple pm_p_common_multiple cd_p_common_multiple ct_p_common_multiple oc_p_common_bottom kV_p_common_bottom dc_p_common_bottom pm_p_common_bottom cd_p_common_bottom ct_p_common_bottom oc_p_tops_over kV_p_tops_over dc_p_tops_over pm_p_tops_over cd_p_tops_over ct_p_tops_over oc_p_sum_of kV_p_sum_of dc_p_sum_of pm_p_sum_of cd_p_sum_of ct_p_sum_of oc_p_are_shares kV_p_are_shares dc_p_are_shares pm_p_are_shares cd_p_are_shares ct_p_are_shares oc_p_are_amounts kV_p_are_amounts dc_p_are_amounts pm_p_are_amounts cd_p_are_amounts ct_p_are_amounts oc_p_is_table kV_p_is_table dc_p_is_table pm_p_is_table cd_p_is_table ct_p_is_table oc_p_is_plan kV_p_is_plan dc_p_is_plan pm_p_is_plan cd_p_is_plan ct_p_is_plan oc_l_well kV_l_well dc_l_well pm_l_well cd_l_well ct_l_well oc_l_draw kV_l_draw dc_l_draw pm_l_draw cd_l_draw ct_l_draw oc_l_one kV_l_one dc_l_one pm_l_one cd_l_one ct_l_one oc_l_low kV_l_low dc_l_low pm_l_low cd_l_low ct_l_low oc_l_heap kV_l_heap dc_l_heap pm_l_heap cd_l_heap ct_l_heap oc_l_shares kV_l_shares dc_l_shares pm_l_shares cd_l_shares ct_l_shares oc_l_added kV_l_added dc_l_added pm_l_added cd_l_added ct_l_added oc_l_total kV_l_total dc_l_total pm_l_total cd_l_total ct_l_total oc_l_below kV_l_below dc_l_below pm_l_below cd_l_below ct_l_below oc_l_filled kV_l_filled dc_l_filled pm_l_filled cd_l_filled ct_l_filled oc_l_otherwise kV_l_otherwise dc_l_otherwise pm_l_otherwise cd_l_otherwise ct_l_otherwise oc_l_made kV_l_made dc_l_made pm_l_made cd_l_made ct_l_made oc_l_due kV_l_due dc_l_due pm_l_due cd_l_due ct_l_due oc_law kV_law dc_law pm_law cd_law ct_law : Value} {tk0_m_Share_init : _} {tkc_PIECE_LENGTH : _} {nt_m_Share_init : _}
    (a_FarError : PySem.W.nsIn K mainGlobals "FarError" = some (some (.ref c_FarError)))
    (a_NoShare : PySem.W.nsIn K mainGlobals "NoShare" = some (some (.ref c_NoShare)))
    (a_Share : PySem.W.nsIn K mainGlobals "Share" = some (some (.ref c_Share)))
    (a_p_written : PySem.W.nsIn K mainGlobals "written" = some (some (.ref f_p_written)))
    (l_p_written : K.lookup f_p_written = some ⟨oc_p_written, od_p_written, .func (PySem.W.fnOf "written" "written" (defArgs s_p_written) (defBody s_p_written) (defScope s_p_written) .none kV_p_written dc_p_written pm_p_written an_p_written cd_p_written ct_p_written), sl_p_written⟩)
    (c_p_written_ : PySem.W.codeIn K cd_p_written "written" = true)
    (k_p_written_ : PySem.W.keepIn K (.ref f_p_written) = true)
    (a_p_is_whole : PySem.W.nsIn K mainGlobals "is_whole" = some (some (.ref f_p_is_whole)))
    (l_p_is_whole : K.lookup f_p_is_whole = some ⟨oc_p_is_whole, od_p_is_whole, .func (PySem.W.fnOf "is_whole" "is_whole" (defArgs s_p_is_whole) (defBody s_p_is_whole) (defScope s_p_is_whole) .none kV_p_is_whole dc_p_is_whole pm_p_is_whole an_p_is_whole cd_p_is_whole ct_p_is_whole), sl_p_is_whole⟩)
    (c_p_is_whole_ : PySem.W.codeIn K cd_p_is_whole "is_whole" = true)
    (k_p_is_whole_ : PySem.W.keepIn K (.ref f_p_is_whole) = true)
    (a_m_Share_init : PySem.W.findIn K (.ref c_Share) "__init__" = some (some (.ref f_m_Share_init)))
    (l_m_Share_init : K.lookup f_m_Share_init = some ⟨oc_m_Share_init, od_m_Share_init, .func (PySem.W.fnOf "__init__" "Share.__init__" (defArgs s_m_Share_init) (defBody s_m_Share_init) (defScope s_m_Share_init) (.ref t_m_Share_init) kV_m_Share_init dc_m_Share_init pm_m_Share_init an_m_Share_init cd_m_Share_init ct_m_Share_init), sl_m_Share_init⟩)
    (lt_m_Share_init : K.lookup t_m_Share_init = some ⟨oct_m_Share_init, odt_m_Share_init, .seq (List.toArray [Value.int 1 tk0_m_Share_init]) nt_m_Share_init, slt_m_Share_init⟩)
    (c_m_Share_init_ : PySem.W.codeIn K cd_m_Share_init "Share.__init__" = true)
    (k_m_Share_init_ : PySem.W.keepIn K (.ref f_m_Share_init) = true)
    (a_m_Share_eq : PySem.W.findIn K (.ref c_Share) "__eq__" = some (some (.ref f_m_Share_eq)))
    (l_m_Share_eq : K.lookup f_m_Share_eq = some ⟨oc_m_Share_eq, od_m_Share_eq, .func (PySem.W.fnOf "__eq__" "Share.__eq__" (defArgs s_m_Share_eq) (defBody s_m_Share_eq) (defScope s_m_Share_eq) .none kV_m_Share_eq dc_m_Share_eq pm_m_Share_eq an_m_Share_eq cd_m_Share_eq ct_m_Share_eq), sl_m_Share_eq⟩)
    (c_m_Share_eq_ : PySem.W.codeIn K cd_m_Share_eq "Share.__eq__" = true)
    (k_m_Share_eq_ : PySem.W.keepIn K (.ref f_m_Share_eq) = true)
    (a_m_Share_str : PySem.W.findIn K (.ref c_Share) "__str__" = some (some (.ref f_m_Share_str)))
    (l_m_Share_str : K.lookup f_m_Share_str = some ⟨oc_m_Share_str, od_m_Share_str, .func (PySem.W.fnOf "__str__" "Share.__str__" (defArgs s_m_Share_str) (defBody s_m_Share_str) (defScope s_m_Share_str) .none kV_m_Share_str dc_m_Share_str pm_m_Share_str an_m_Share_str cd_m_Share_str ct_m_Share_str), sl_m_Share_str⟩)
    (c_m_Share_str_ : PySem.W.codeIn K cd_m_Share_str "Share.__str__" = true)
    (k_m_Share_str_ : PySem.W.keepIn K (.ref f_m_Share_str) = true)
    (a_p_common_part : PySem.W.nsIn K mainGlobals "common_part" = some (some (.ref f_p_common_part)))
    (l_p_common_part : K.lookup f_p_common_part = some ⟨oc_p_common_part, od_p_common_part, .func (PySem.W.fnOf "common_part" "common_part" (defArgs s_p_common_part) (defBody s_p_common_part) (defScope s_p_common_part) .none kV_p_common_part dc_p_common_part pm_p_common_part an_p_common_part cd_p_common_part ct_p_common_part), sl_p_common_part⟩)
    (c_p_common_part_ : PySem.W.codeIn K cd_p_common_part "common_part" = true)
    (k_p_common_part_ : PySem.W.keepIn K (.ref f_p_common_part) = true)
    (a_p_common_multiple : PySem.W.nsIn K mainGlobals "common_multiple" = some (some (.ref f_p_common_multiple)))
    (l_p_common_multiple : K.lookup f_p_common_multiple = some ⟨oc_p_common_multiple, od_p_common_multiple, .func (PySem.W.fnOf "common_multiple" "common_multiple" (defArgs s_p_common_multiple) (defBody s_p_common_multiple) (defScope s_p_common_multiple) .none kV_p_common_multiple dc_p_common_multiple pm_p_common_multiple an_p_common_multiple cd_p_common_multiple ct_p_common_multiple), sl_p_common_multiple⟩)
    (c_p_common_multiple_ : PySem.W.codeIn K cd_p_common_multiple "common_multiple" = true)
    (k_p_common_multiple_ : PySem.W.keepIn K (.ref f_p_common_multiple) = true)
    (a_p_common_bottom : PySem.W.nsIn K mainGlobals "common_bottom" = some (some (.ref f_p_common_bottom)))
    (l_p_common_bottom : K.lookup f_p_common_bottom = some ⟨oc_p_common_bottom, od_p_common_bottom, .func (PySem.W.fnOf "common_bottom" "common_bottom" (defArgs s_p_common_bottom) (defBody s_p_common_bottom) (defScope s_p_common_bottom) .none kV_p_common_bottom dc_p_common_bottom pm_p_common_bottom an_p_common_bottom cd_p_common_bottom ct_p_common_bottom), sl_p_common_bottom⟩)
    (c_p_common_bottom_ : PySem.W.codeIn K cd_p_common_bottom "common_bottom" = true)
    (k_p_common_bottom_ : PySem.W.keepIn K (.ref f_p_common_bottom) = true)
    (a_p_tops_over : PySem.W.nsIn K mainGlobals "tops_over" = some (some (.ref f_p_tops_over)))
    (l_p_tops_over : K.lookup f_p_tops_over = some ⟨oc_p_tops_over, od_p_tops_over, .func (PySem.W.fnOf "tops_over" "tops_over" (defArgs s_p_tops_over) (defBody s_p_tops_over) (defScope s_p_tops_over) .none kV_p_tops_over dc_p_tops_over pm_p_tops_over an_p_tops_over cd_p_tops_over ct_p_tops_over), sl_p_tops_over⟩)
    (c_p_tops_over_ : PySem.W.codeIn K cd_p_tops_over "tops_over" = true)
    (k_p_tops_over_ : PySem.W.keepIn K (.ref f_p_tops_over) = true)
    (a_p_sum_of : PySem.W.nsIn K mainGlobals "sum_of" = some (some (.ref f_p_sum_of)))
    (l_p_sum_of : K.lookup f_p_sum_of = some ⟨oc_p_sum_of, od_p_sum_of, .func (PySem.W.fnOf "sum_of" "sum_of" (defArgs s_p_sum_of) (defBody s_p_sum_of) (defScope s_p_sum_of) .none kV_p_sum_of dc_p_sum_of pm_p_sum_of an_p_sum_of cd_p_sum_of ct_p_sum_of), sl_p_sum_of⟩)
    (c_p_sum_of_ : PySem.W.codeIn K cd_p_sum_of "sum_of" = true)
    (k_p_sum_of_ : PySem.W.keepIn K (.ref f_p_sum_of) = true)
    (a_p_are_shares : PySem.W.nsIn K mainGlobals "are_shares" = some (some (.ref f_p_are_shares)))
    (l_p_are_shares : K.lookup f_p_are_shares = some ⟨oc_p_are_shares, od_p_are_shares, .func (PySem.W.fnOf "are_shares" "are_shares" (defArgs s_p_are_shares) (defBody s_p_are_shares) (defScope s_p_are_shares) .none kV_p_are_shares dc_p_are_shares pm_p_are_shares an_p_are_shares cd_p_are_shares ct_p_are_shares), sl_p_are_shares⟩)
    (c_p_are_shares_ : PySem.W.codeIn K cd_p_are_shares "are_shares" = true)
    (k_p_are_shares_ : PySem.W.keepIn K (.ref f_p_are_shares) = true)
    (a_p_are_amounts : PySem.W.nsIn K mainGlobals "are_amounts" = some (some (.ref f_p_are_amounts)))
    (l_p_are_amounts : K.lookup f_p_are_amounts = some ⟨oc_p_are_amounts, od_p_are_amounts, .func (PySem.W.fnOf "are_amounts" "are_amounts" (defArgs s_p_are_amounts) (defBody s_p_are_amounts) (defScope s_p_are_amounts) .none kV_p_are_amounts dc_p_are_amounts pm_p_are_amounts an_p_are_amounts cd_p_are_amounts ct_p_are_amounts), sl_p_are_amounts⟩)
    (c_p_are_amounts_ : PySem.W.codeIn K cd_p_are_amounts "are_amounts" = true)
    (k_p_are_amounts_ : PySem.W.keepIn K (.ref f_p_are_amounts) = true)
    (a_p_is_table : PySem.W.nsIn K mainGlobals "is_table" = some (some (.ref f_p_is_table)))
    (l_p_is_table : K.lookup f_p_is_table = some ⟨oc_p_is_table, od_p_is_table, .func (PySem.W.fnOf "is_table" "is_table" (defArgs s_p_is_table) (defBody s_p_is_table) (defScope s_p_is_table) .none kV_p_is_table dc_p_is_table pm_p_is_table an_p_is_table cd_p_is_table ct_p_is_table), sl_p_is_table⟩)
    (c_p_is_table_ : PySem.W.codeIn K cd_p_is_table "is_table" = true)
    (k_p_is_table_ : PySem.W.keepIn K (.ref f_p_is_table) = true)
    (a_p_is_plan : PySem.W.nsIn K mainGlobals "is_plan" = some (some (.ref f_p_is_plan)))
    (l_p_is_plan : K.lookup f_p_is_plan = some ⟨oc_p_is_plan, od_p_is_plan, .func (PySem.W.fnOf "is_plan" "is_plan" (defArgs s_p_is_plan) (defBody s_p_is_plan) (defScope s_p_is_plan) .none kV_p_is_plan dc_p_is_plan pm_p_is_plan an_p_is_plan cd_p_is_plan ct_p_is_plan), sl_p_is_plan⟩)
    (c_p_is_plan_ : PySem.W.codeIn K cd_p_is_plan "is_plan" = true)
    (k_p_is_plan_ : PySem.W.keepIn K (.ref f_p_is_plan) = true)
    (a_l_well : PySem.W.nsIn K mainGlobals "_law_well" = some (some (.ref f_l_well)))
    (l_l_well : K.lookup f_l_well = some ⟨oc_l_well, od_l_well, .func (PySem.W.fnOf "_law_well" "_law_well" (defArgs s_l_well) (defBody s_l_well) (defScope s_l_well) .none kV_l_well dc_l_well pm_l_well an_l_well cd_l_well ct_l_well), sl_l_well⟩)
    (c_l_well_ : PySem.W.codeIn K cd_l_well "_law_well" = true)
    (k_l_well_ : PySem.W.keepIn K (.ref f_l_well) = true)
    (a_l_draw : PySem.W.nsIn K mainGlobals "_law_draw" = some (some (.ref f_l_draw)))
    (l_l_draw : K.lookup f_l_draw = some ⟨oc_l_draw, od_l_draw, .func (PySem.W.fnOf "_law_draw" "_law_draw" (defArgs s_l_draw) (defBody s_l_draw) (defScope s_l_draw) .none kV_l_draw dc_l_draw pm_l_draw an_l_draw cd_l_draw ct_l_draw), sl_l_draw⟩)
    (c_l_draw_ : PySem.W.codeIn K cd_l_draw "_law_draw" = true)
    (k_l_draw_ : PySem.W.keepIn K (.ref f_l_draw) = true)
    (a_l_one : PySem.W.nsIn K mainGlobals "_law_one" = some (some (.ref f_l_one)))
    (l_l_one : K.lookup f_l_one = some ⟨oc_l_one, od_l_one, .func (PySem.W.fnOf "_law_one" "_law_one" (defArgs s_l_one) (defBody s_l_one) (defScope s_l_one) .none kV_l_one dc_l_one pm_l_one an_l_one cd_l_one ct_l_one), sl_l_one⟩)
    (c_l_one_ : PySem.W.codeIn K cd_l_one "_law_one" = true)
    (k_l_one_ : PySem.W.keepIn K (.ref f_l_one) = true)
    (a_l_low : PySem.W.nsIn K mainGlobals "_law_low" = some (some (.ref f_l_low)))
    (l_l_low : K.lookup f_l_low = some ⟨oc_l_low, od_l_low, .func (PySem.W.fnOf "_law_low" "_law_low" (defArgs s_l_low) (defBody s_l_low) (defScope s_l_low) .none kV_l_low dc_l_low pm_l_low an_l_low cd_l_low ct_l_low), sl_l_low⟩)
    (c_l_low_ : PySem.W.codeIn K cd_l_low "_law_low" = true)
    (k_l_low_ : PySem.W.keepIn K (.ref f_l_low) = true)
    (a_l_heap : PySem.W.nsIn K mainGlobals "_law_heap" = some (some (.ref f_l_heap)))
    (l_l_heap : K.lookup f_l_heap = some ⟨oc_l_heap, od_l_heap, .func (PySem.W.fnOf "_law_heap" "_law_heap" (defArgs s_l_heap) (defBody s_l_heap) (defScope s_l_heap) .none kV_l_heap dc_l_heap pm_l_heap an_l_heap cd_l_heap ct_l_heap), sl_l_heap⟩)
    (c_l_heap_ : PySem.W.codeIn K cd_l_heap "_law_heap" = true)
    (k_l_heap_ : PySem.W.keepIn K (.ref f_l_heap) = true)
    (a_l_shares : PySem.W.nsIn K mainGlobals "_law_shares" = some (some (.ref f_l_shares)))
    (l_l_shares : K.lookup f_l_shares = some ⟨oc_l_shares, od_l_shares, .func (PySem.W.fnOf "_law_shares" "_law_shares" (defArgs s_l_shares) (defBody s_l_shares) (defScope s_l_shares) .none kV_l_shares dc_l_shares pm_l_shares an_l_shares cd_l_shares ct_l_shares), sl_l_shares⟩)
    (c_l_shares_ : PySem.W.codeIn K cd_l_shares "_law_shares" = true)
    (k_l_shares_ : PySem.W.keepIn K (.ref f_l_shares) = true)
    (a_l_added : PySem.W.nsIn K mainGlobals "_law_added" = some (some (.ref f_l_added)))
    (l_l_added : K.lookup f_l_added = some ⟨oc_l_added, od_l_added, .func (PySem.W.fnOf "_law_added" "_law_added" (defArgs s_l_added) (defBody s_l_added) (defScope s_l_added) .none kV_l_added dc_l_added pm_l_added an_l_added cd_l_added ct_l_added), sl_l_added⟩)
    (c_l_added_ : PySem.W.codeIn K cd_l_added "_law_added" = true)
    (k_l_added_ : PySem.W.keepIn K (.ref f_l_added) = true)
    (a_l_total : PySem.W.nsIn K mainGlobals "_law_total" = some (some (.ref f_l_total)))
    (l_l_total : K.lookup f_l_total = some ⟨oc_l_total, od_l_total, .func (PySem.W.fnOf "_law_total" "_law_total" (defArgs s_l_total) (defBody s_l_total) (defScope s_l_total) .none kV_l_total dc_l_total pm_l_total an_l_total cd_l_total ct_l_total), sl_l_total⟩)
    (c_l_total_ : PySem.W.codeIn K cd_l_total "_law_total" = true)
    (k_l_total_ : PySem.W.keepIn K (.ref f_l_total) = true)
    (a_l_below : PySem.W.nsIn K mainGlobals "_law_below" = some (some (.ref f_l_below)))
    (l_l_below : K.lookup f_l_below = some ⟨oc_l_below, od_l_below, .func (PySem.W.fnOf "_law_below" "_law_below" (defArgs s_l_below) (defBody s_l_below) (defScope s_l_below) .none kV_l_below dc_l_below pm_l_below an_l_below cd_l_below ct_l_below), sl_l_below⟩)
    (c_l_below_ : PySem.W.codeIn K cd_l_below "_law_below" = true)
    (k_l_below_ : PySem.W.keepIn K (.ref f_l_below) = true)
    (a_l_filled : PySem.W.nsIn K mainGlobals "_law_filled" = some (some (.ref f_l_filled)))
    (l_l_filled : K.lookup f_l_filled = some ⟨oc_l_filled, od_l_filled, .func (PySem.W.fnOf "_law_filled" "_law_filled" (defArgs s_l_filled) (defBody s_l_filled) (defScope s_l_filled) .none kV_l_filled dc_l_filled pm_l_filled an_l_filled cd_l_filled ct_l_filled), sl_l_filled⟩)
    (c_l_filled_ : PySem.W.codeIn K cd_l_filled "_law_filled" = true)
    (k_l_filled_ : PySem.W.keepIn K (.ref f_l_filled) = true)
    (a_l_otherwise : PySem.W.nsIn K mainGlobals "_law_otherwise" = some (some (.ref f_l_otherwise)))
    (l_l_otherwise : K.lookup f_l_otherwise = some ⟨oc_l_otherwise, od_l_otherwise, .func (PySem.W.fnOf "_law_otherwise" "_law_otherwise" (defArgs s_l_otherwise) (defBody s_l_otherwise) (defScope s_l_otherwise) .none kV_l_otherwise dc_l_otherwise pm_l_otherwise an_l_otherwise cd_l_otherwise ct_l_otherwise), sl_l_otherwise⟩)
    (c_l_otherwise_ : PySem.W.codeIn K cd_l_otherwise "_law_otherwise" = true)
    (k_l_otherwise_ : PySem.W.keepIn K (.ref f_l_otherwise) = true)
    (a_l_made : PySem.W.nsIn K mainGlobals "_law_made" = some (some (.ref f_l_made)))
    (l_l_made : K.lookup f_l_made = some ⟨oc_l_made, od_l_made, .func (PySem.W.fnOf "_law_made" "_law_made" (defArgs s_l_made) (defBody s_l_made) (defScope s_l_made) .none kV_l_made dc_l_made pm_l_made an_l_made cd_l_made ct_l_made), sl_l_made⟩)
    (c_l_made_ : PySem.W.codeIn K cd_l_made "_law_made" = true)
    (k_l_made_ : PySem.W.keepIn K (.ref f_l_made) = true)
    (a_l_due : PySem.W.nsIn K mainGlobals "_law_due" = some (some (.ref f_l_due)))
    (l_l_due : K.lookup f_l_due = some ⟨oc_l_due, od_l_due, .func (PySem.W.fnOf "_law_due" "_law_due" (defArgs s_l_due) (defBody s_l_due) (defScope s_l_due) .none kV_l_due dc_l_due pm_l_due an_l_due cd_l_due ct_l_due), sl_l_due⟩)
    (c_l_due_ : PySem.W.codeIn K cd_l_due "_law_due" = true)
    (k_l_due_ : PySem.W.keepIn K (.ref f_l_due) = true)
    (a_law : PySem.W.nsIn K mainGlobals "law" = some (some (.ref f_law)))
    (l_law : K.lookup f_law = some ⟨oc_law, od_law, .func (PySem.W.fnOf "law" "law" (defArgs s_law) (defBody s_law) (defScope s_law) .none kV_law dc_law pm_law an_law cd_law ct_law), sl_law⟩)
    (c_law_ : PySem.W.codeIn K cd_law "law" = true)
    (k_law_ : PySem.W.keepIn K (.ref f_law) = true)
    (pg_Share : PySem.W.plainGet K c_Share Str.empty = true)
    (hd_Share : PySem.W.hasDictIn K c_Share = true)
    (po_Share : PySem.W.plainOver K c_Share = true)
    (sa_Share : PySem.W.findIn K (.ref c_Share) "__setattr__" = some (some (.builtin "object.__setattr__")))
    (mk_Share : PySem.W.makesIn K c_Share = true)
    (kc_Share : PySem.W.keepIn K (.ref c_Share) = true)
    (if_Share : PySem.W.isFn K (.ref f_m_Share_init) = true)
    (ha_Share : PySem.W.findIn K (.ref c_Share) "__class__" = some (some (.builtin "object.__class__")))
    (hn_Share : PySem.W.specialIn K (.builtin "object.__class__") "__get__" = some (some (.builtin "getset_descriptor.__get__")))
    (ht_Share : PySem.W.takesIn K (.builtin "object.__class__") = some true)
    (hm_Share : PySem.W.mroIn K c_Share (.type "object") = some true)
    (n_Share_top : PySem.W.findIn K (.ref c_Share) "top" = some none)
    (n_Share_bottom : PySem.W.findIn K (.ref c_Share) "bottom" = some none)
    (i_m_Share_eq : PySem.W.isFn K (.ref f_m_Share_eq) = true)
    (i_m_Share_str : PySem.W.isFn K (.ref f_m_Share_str) = true)
    (nn_Share : PySem.W.findIn K (.ref c_Share) "__ne__" = some (some (.builtin "object.__ne__")))
    (nf_Share_int : PySem.W.notFirst K c_Share (.type "int") = true)
    (nf_Share_str : PySem.W.notFirst K c_Share (.type "str") = true)
    (nf_Share_NoneType : PySem.W.notFirst K c_Share (.type "NoneType") = true)
    (nf_Share_list : PySem.W.notFirst K c_Share (.type "list") = true)
    (nf_Share_tuple : PySem.W.notFirst K c_Share (.type "tuple") = true)
    (nf_Share_dict : PySem.W.notFirst K c_Share (.type "dict") = true)
    (nf_Share_bool : PySem.W.notFirst K c_Share (.type "bool") = true)
    (ko_Share : PySem.W.kitOne K (.ref c_Share) (.ref c_Share) = some true)
    (ko_Share_int : PySem.W.kitOne K (.type "int") (.ref c_Share) = some false)
    (ko_Share_str : PySem.W.kitOne K (.type "str") (.ref c_Share) = some false)
    (ko_Share_NoneType : PySem.W.kitOne K (.type "NoneType") (.ref c_Share) = some false)
    (ko_Share_list : PySem.W.kitOne K (.type "list") (.ref c_Share) = some false)
    (ko_Share_tuple : PySem.W.kitOne K (.type "tuple") (.ref c_Share) = some false)
    (ko_Share_dict : PySem.W.kitOne K (.type "dict") (.ref c_Share) = some false)
    (ko_Share_bool : PySem.W.kitOne K (.type "bool") (.ref c_Share) = some false)
    (ac_PIECE_LENGTH : PySem.W.nsIn K mainGlobals "PIECE_LENGTH" = some (some (Value.int 64 tkc_PIECE_LENGTH)))
    (zz_divmod : PySem.W.nsIn K mainGlobals "divmod" = some none)
    (zz_str : PySem.W.nsIn K mainGlobals "str" = some none)
    (zz_isinstance : PySem.W.nsIn K mainGlobals "isinstance" = some none)
    (zz_int : PySem.W.nsIn K mainGlobals "int" = some none)
    (zz_bool : PySem.W.nsIn K mainGlobals "bool" = some none)
    (zz_abs : PySem.W.nsIn K mainGlobals "abs" = some none)
    (zz_sum : PySem.W.nsIn K mainGlobals "sum" = some none)
    (zz_list : PySem.W.nsIn K mainGlobals "list" = some none)
    (zz_all : PySem.W.nsIn K mainGlobals "all" = some none)
    (zz_len : PySem.W.nsIn K mainGlobals "len" = some none)
    (zz_range : PySem.W.nsIn K mainGlobals "range" = some none)
    (zz_tuple : PySem.W.nsIn K mainGlobals "tuple" = some none)
    (zz_zip : PySem.W.nsIn K mainGlobals "zip" = some none)
    (fact_kit_Share_list : PySem.W.kitOne K (.ref c_Share) (.type "list") = some false)
    (fact_kit_Share_tuple : PySem.W.kitOne K (.ref c_Share) (.type "tuple") = some false)
    : ∃ fd : FuncData, (∀ (s : Shared) (v : Value), BindsTo s fd ⟨[v], []⟩ [("_law_script", v)]) ∧ ∀ base : Heap, K.In base → base.Ns mainGlobals mg → FnOk l.prog w K mg base CX0 14 fa fd ["_law_script"] (spLaw K) := by
  have e := hfa.symm.trans (PySem.W.mg_of X G a_law)
  cases e
  have F_p_written := fun_mk (st := s_p_written) l_p_written c_p_written_ k_p_written_
  have b_p_written := F_p_written.binds (ps := ["number"]) fun _ _ _ _ _ _ us hl => match us, hl with | [_], _ => rfl
  have F_p_is_whole := fun_mk (st := s_p_is_whole) l_p_is_whole c_p_is_whole_ k_p_is_whole_
  have b_p_is_whole := F_p_is_whole.binds (ps := ["thing"]) fun _ _ _ _ _ _ us hl => match us, hl with | [_], _ => rfl
  have F_m_Share_init : FunD K "__init__" "Share.__init__" (defArgs s_m_Share_init) (defBody s_m_Share_init) (defScope s_m_Share_init) [.int 1] [] f_m_Share_init (PySem.W.fnOf "__init__" "Share.__init__" (defArgs s_m_Share_init) (defBody s_m_Share_init) (defScope s_m_Share_init) (.ref t_m_Share_init) kV_m_Share_init dc_m_Share_init pm_m_Share_init an_m_Share_init cd_m_Share_init ct_m_Share_init) := ⟨⟨_, _, _, _, _, _, _, _, _, _, rfl, l_m_Share_init, c_m_Share_init_, .inr ⟨by simp, t_m_Share_init, _, _, _, rfl, lt_m_Share_init, rfl, (.cons ⟨_, rfl⟩ .nil)⟩, .inl rfl⟩, k_m_Share_init_⟩
  have b_m_Share_init : Binds K (PySem.W.fnOf "__init__" "Share.__init__" (defArgs s_m_Share_init) (defBody s_m_Share_init) (defScope s_m_Share_init) (.ref t_m_Share_init) kV_m_Share_init dc_m_Share_init pm_m_Share_init an_m_Share_init cd_m_Share_init ct_m_Share_init) ["self", "top", "bottom"] [] := by
    obtain ⟨ds, v0, b0⟩ := F_m_Share_init.binds1 (ps := ["self", "top", "bottom"]) 3 1 (by simp) rfl fun _ _ _ _ _ _ _ us its h1 h2 => match us, its, h1, h2 with | [_, _, _], [_], _, _ => ⟨_, rfl, rfl⟩
    cases v0
    exact b0
  have e_m_Share_init : ∃ ds, Vals [.int 1] ds ∧ Binds K (PySem.W.fnOf "__init__" "Share.__init__" (defArgs s_m_Share_init) (defBody s_m_Share_init) (defScope s_m_Share_init) (.ref t_m_Share_init) kV_m_Share_init dc_m_Share_init pm_m_Share_init an_m_Share_init cd_m_Share_init ct_m_Share_init) ["self", "top", "bottom"] ds := F_m_Share_init.binds1 2 0 (by simp) rfl fun _ _ _ _ _ _ _ us its h1 h2 => match us, its, h1, h2 with | [_, _], [_], _, _ => ⟨_, rfl, rfl⟩
  have F_m_Share_eq := fun_mk (st := s_m_Share_eq) l_m_Share_eq c_m_Share_eq_ k_m_Share_eq_
  have b_m_Share_eq := F_m_Share_eq.binds (ps := ["self", "other"]) fun _ _ _ _ _ _ us hl => match us, hl with | [_, _], _ => rfl
  have F_m_Share_str := fun_mk (st := s_m_Share_str) l_m_Share_str c_m_Share_str_ k_m_Share_str_
  have b_m_Share_str := F_m_Share_str.binds (ps := ["self"]) fun _ _ _ _ _ _ us hl => match us, hl with | [_], _ => rfl
  have F_p_common_part := fun_mk (st := s_p_common_part) l_p_common_part c_p_common_part_ k_p_common_part_
  have b_p_common_part := F_p_common_part.binds (ps := ["one", "other"]) fun _ _ _ _ _ _ us hl => match us, hl with | [_, _], _ => rfl
  have F_p_common_multiple := fun_mk (st := s_p_common_multiple) l_p_common_multiple c_p_common_multiple_ k_p_common_multiple_
  have b_p_common_multiple := F_p_common_multiple.binds (ps := ["one", "other"]) fun _ _ _ _ _ _ us hl => match us, hl with | [_, _], _ => rfl
  have F_p_common_bottom := fun_mk (st := s_p_common_bottom) l_p_common_bottom c_p_common_bottom_ k_p_common_bottom_
  have b_p_common_bottom := F_p_common_bottom.binds (ps := ["shares"]) fun _ _ _ _ _ _ us hl => match us, hl with | [_], _ => rfl
  have F_p_tops_over := fun_mk (st := s_p_tops_over) l_p_tops_over c_p_tops_over_ k_p_tops_over_
  have b_p_tops_over := F_p_tops_over.binds (ps := ["bottom", "shares"]) fun _ _ _ _ _ _ us hl => match us, hl with | [_, _], _ => rfl
  have F_p_sum_of := fun_mk (st := s_p_sum_of) l_p_sum_of c_p_sum_of_ k_p_sum_of_
  have b_p_sum_of := F_p_sum_of.binds (ps := ["shares"]) fun _ _ _ _ _ _ us hl => match us, hl with | [_], _ => rfl
  have F_p_are_shares := fun_mk (st := s_p_are_shares) l_p_are_shares c_p_are_shares_ k_p_are_shares_
  have b_p_are_shares := F_p_are_shares.binds (ps := ["thing", "many"]) fun _ _ _ _ _ _ us hl => match us, hl with | [_, _], _ => rfl
  have F_p_are_amounts := fun_mk (st := s_p_are_amounts) l_p_are_amounts c_p_are_amounts_ k_p_are_amounts_
  have b_p_are_amounts := F_p_are_amounts.binds (ps := ["thing", "many"]) fun _ _ _ _ _ _ us hl => match us, hl with | [_, _], _ => rfl
  have F_p_is_table := fun_mk (st := s_p_is_table) l_p_is_table c_p_is_table_ k_p_is_table_
  have b_p_is_table := F_p_is_table.binds (ps := ["thing", "rows", "columns"]) fun _ _ _ _ _ _ us hl => match us, hl with | [_, _, _], _ => rfl
  have F_p_is_plan := fun_mk (st := s_p_is_plan) l_p_is_plan c_p_is_plan_ k_p_is_plan_
  have b_p_is_plan := F_p_is_plan.binds (ps := ["thing", "first", "second"]) fun _ _ _ _ _ _ us hl => match us, hl with | [_, _, _], _ => rfl
  have F_l_well := fun_mk (st := s_l_well) l_l_well c_l_well_ k_l_well_
  have b_l_well := F_l_well.binds (ps := ["_law_cell"]) fun _ _ _ _ _ _ us hl => match us, hl with | [_], _ => rfl
  have F_l_draw := fun_mk (st := s_l_draw) l_l_draw c_l_draw_ k_l_draw_
  have b_l_draw := F_l_draw.binds (ps := ["_law_well_here", "_law_many"]) fun _ _ _ _ _ _ us hl => match us, hl with | [_, _], _ => rfl
  have F_l_one := fun_mk (st := s_l_one) l_l_one c_l_one_ k_l_one_
  have b_l_one := F_l_one.binds (ps := ["_law_well_here", "_law_some"]) fun _ _ _ _ _ _ us hl => match us, hl with | [_, _], _ => rfl
  have F_l_low := fun_mk (st := s_l_low) l_l_low c_l_low_ k_l_low_
  have b_l_low := F_l_low.binds (ps := ["_law_top", "_law_bottom"]) fun _ _ _ _ _ _ us hl => match us, hl with | [_, _], _ => rfl
  have F_l_heap := fun_mk (st := s_l_heap) l_l_heap c_l_heap_ k_l_heap_
  have b_l_heap := F_l_heap.binds (ps := ["_law_well_here", "_law_many"]) fun _ _ _ _ _ _ us hl => match us, hl with | [_, _], _ => rfl
  have F_l_shares := fun_mk (st := s_l_shares) l_l_shares c_l_shares_ k_l_shares_
  have b_l_shares := F_l_shares.binds (ps := ["_law_pairs"]) fun _ _ _ _ _ _ us hl => match us, hl with | [_], _ => rfl
  have F_l_added := fun_mk (st := s_l_added) l_l_added c_l_added_ k_l_added_
  have b_l_added := F_l_added.binds (ps := ["_law_one_here", "_law_other"]) fun _ _ _ _ _ _ us hl => match us, hl with | [_, _], _ => rfl
  have F_l_total := fun_mk (st := s_l_total) l_l_total c_l_total_ k_l_total_
  have b_l_total := F_l_total.binds (ps := ["_law_pairs"]) fun _ _ _ _ _ _ us hl => match us, hl with | [_], _ => rfl
  have F_l_below := fun_mk (st := s_l_below) l_l_below c_l_below_ k_l_below_
  have b_l_below := F_l_below.binds (ps := ["_law_one_here", "_law_other"]) fun _ _ _ _ _ _ us hl => match us, hl with | [_, _], _ => rfl
  have F_l_filled := fun_mk (st := s_l_filled) l_l_filled c_l_filled_ k_l_filled_
  have b_l_filled := F_l_filled.binds (ps := ["_law_well_here", "_law_first", "_law_second"]) fun _ _ _ _ _ _ us hl => match us, hl with | [_, _, _], _ => rfl
  have F_l_otherwise := fun_mk (st := s_l_otherwise) l_l_otherwise c_l_otherwise_ k_l_otherwise_
  have b_l_otherwise := F_l_otherwise.binds (ps := ["_law_well_here", "_law_plan"]) fun _ _ _ _ _ _ us hl => match us, hl with | [_, _], _ => rfl
  have F_l_made := fun_mk (st := s_l_made) l_l_made c_l_made_ k_l_made_
  have b_l_made := F_l_made.binds (ps := ["_law_plan"]) fun _ _ _ _ _ _ us hl => match us, hl with | [_], _ => rfl
  have F_l_due := fun_mk (st := s_l_due) l_l_due c_l_due_ k_l_due_
  have b_l_due := F_l_due.binds (ps := ["_law_plan", "_law_first", "_law_second"]) fun _ _ _ _ _ _ us hl => match us, hl with | [_, _, _], _ => rfl
  have F_law := fun_mk (st := s_law) l_law c_law_ k_law_
  have b_law := F_law.binds (ps := ["_law_script"]) fun _ _ _ _ _ _ us hl => match us, hl with | [_], _ => rfl
  exact ⟨PySem.W.fnOf "law" "law" (defArgs s_law) (defBody s_law) (defScope s_law) .none kV_law dc_law pm_law an_law cd_law ct_law, fun s v => .of_eq rfl, fun base _ _ => ok_law (⟨c_FarError, (PySem.W.mg_of X G a_FarError), c_NoShare, (PySem.W.mg_of X G a_NoShare), c_Share, (PySem.W.mg_of X G a_Share), f_p_written, _, F_p_written, b_p_written, (PySem.W.mg_of X G a_p_written), f_p_is_whole, _, F_p_is_whole, b_p_is_whole, (PySem.W.mg_of X G a_p_is_whole), f_m_Share_init, _, F_m_Share_init, b_m_Share_init, e_m_Share_init, f_m_Share_eq, _, F_m_Share_eq, b_m_Share_eq, f_m_Share_str, _, F_m_Share_str, b_m_Share_str, f_p_common_part, _, F_p_common_part, b_p_common_part, (PySem.W.mg_of X G a_p_common_part), f_p_common_multiple, _, F_p_common_multiple, b_p_common_multiple, (PySem.W.mg_of X G a_p_common_multiple), f_p_common_bottom, _, F_p_common_bottom, b_p_common_bottom, (PySem.W.mg_of X G a_p_common_bottom), f_p_tops_over, _, F_p_tops_over, b_p_tops_over, (PySem.W.mg_of X G a_p_tops_over), f_p_sum_of, _, F_p_sum_of, b_p_sum_of, (PySem.W.mg_of X G a_p_sum_of), f_p_are_shares, _, F_p_are_shares, b_p_are_shares, (PySem.W.mg_of X G a_p_are_shares), f_p_are_amounts, _, F_p_are_amounts, b_p_are_amounts, (PySem.W.mg_of X G a_p_are_amounts), f_p_is_table, _, F_p_is_table, b_p_is_table, (PySem.W.mg_of X G a_p_is_table), f_p_is_plan, _, F_p_is_plan, b_p_is_plan, (PySem.W.mg_of X G a_p_is_plan), f_l_well, _, F_l_well, b_l_well, (PySem.W.mg_of X G a_l_well), f_l_draw, _, F_l_draw, b_l_draw, (PySem.W.mg_of X G a_l_draw), f_l_one, _, F_l_one, b_l_one, (PySem.W.mg_of X G a_l_one), f_l_low, _, F_l_low, b_l_low, (PySem.W.mg_of X G a_l_low), f_l_heap, _, F_l_heap, b_l_heap, (PySem.W.mg_of X G a_l_heap), f_l_shares, _, F_l_shares, b_l_shares, (PySem.W.mg_of X G a_l_shares), f_l_added, _, F_l_added, b_l_added, (PySem.W.mg_of X G a_l_added), f_l_total, _, F_l_total, b_l_total, (PySem.W.mg_of X G a_l_total), f_l_below, _, F_l_below, b_l_below, (PySem.W.mg_of X G a_l_below), f_l_filled, _, F_l_filled, b_l_filled, (PySem.W.mg_of X G a_l_filled), f_l_otherwise, _, F_l_otherwise, b_l_otherwise, (PySem.W.mg_of X G a_l_otherwise), f_l_made, _, F_l_made, b_l_made, (PySem.W.mg_of X G a_l_made), f_l_due, _, F_l_due, b_l_due, (PySem.W.mg_of X G a_l_due), _, _, F_law, b_law, (PySem.W.mg_of X G a_law), ⟨pg_Share, hd_Share, po_Share, sa_Share⟩, ⟨mk_Share, a_m_Share_init, if_Share, kc_Share⟩, ⟨ha_Share, hn_Share, ht_Share, hm_Share⟩, n_Share_top, n_Share_bottom, ⟨a_m_Share_eq, i_m_Share_eq, k_m_Share_eq_⟩, ⟨a_m_Share_str, i_m_Share_str, k_m_Share_str_⟩, nn_Share, nf_Share_int, nf_Share_str, nf_Share_NoneType, nf_Share_list, nf_Share_tuple, nf_Share_dict, nf_Share_bool, ko_Share, ko_Share_int, ko_Share_str, ko_Share_NoneType, ko_Share_list, ko_Share_tuple, ko_Share_dict, ko_Share_bool, _, (PySem.W.mg_of X G ac_PIECE_LENGTH), ⟨_, rfl⟩, (PySem.W.mg_none_of X G zz_divmod), (PySem.W.mg_none_of X G zz_str), (PySem.W.mg_none_of X G zz_isinstance), (PySem.W.mg_none_of X G zz_int), (PySem.W.mg_none_of X G zz_bool), (PySem.W.mg_none_of X G zz_abs), (PySem.W.mg_none_of X G zz_sum), (PySem.W.mg_none_of X G zz_list), (PySem.W.mg_none_of X G zz_all), (PySem.W.mg_none_of X G zz_len), (PySem.W.mg_none_of X G zz_range), (PySem.W.mg_none_of X G zz_tuple), (PySem.W.mg_none_of X G zz_zip), fact_kit_Share_list, fact_kit_Share_tuple⟩ : Txt K mg)⟩
end Fb
open PySem PySem.W PyProof.Rows
set_option maxRecDepth 100000 in
set_option maxHeartbeats 0 in
theorem PySem.Challenge.cw_farbetween_k11_plans_judged_holds : PySem.Challenge.rw_farbetween_k11_plans_judged.Holds := by
  w_on; o_law; k_head; (case hw => w_witness2)
  k_fill
  refine L2.walk_of (l := PySem.Challenge.rw_farbetween_k11_plans_judged) (n := 63) (k := 14) (x := "_law_script") (CX := fun _ => L2.CX0) (sp := fun w => Fb.spLaw _) rfl (by decide) rfl ⟨rfl, by decide, by decide⟩ (fun w h Y => PySem.W.kIn_of Y) ?F (fun _ _ a ns hl _ hS => ⟨a, ns, rfl, hS, hl, fun _ => rfl⟩) (fun _ _ _ _ _ h => h)
  case F =>
    intro w mg fa h KX G hmg
    refine' Fb.all_mk KX G hmg ?a_FarError ?a_NoShare ?a_Share ?a_p_written ?l_p_written ?c_p_written_ ?k_p_written_ ?a_p_is_whole ?l_p_is_whole ?c_p_is_whole_ ?k_p_is_whole_ ?a_m_Share_init ?l_m_Share_init ?lt_m_Share_init ?c_m_Share_init_ ?k_m_Share_init_ ?a_m_Share_eq ?l_m_Share_eq ?c_m_Share_eq_ ?k_m_Share_eq_ ?a_m_Share_str ?l_m_Share_str ?c_m_Share_str_ ?k_m_Share_str_ ?a_p_common_part ?l_p_common_part ?c_p_common_part_ ?k_p_common_part_ ?a_p_common_multiple ?l_p_common_multiple ?c_p_common_multiple_ ?k_p_common_multiple_ ?a_p_common_bottom ?l_p_common_bottom ?c_p_common_bottom_ ?k_p_common_bottom_ ?a_p_tops_over ?l_p_tops_over ?c_p_tops_over_ ?k_p_tops_over_ ?a_p_sum_of ?l_p_sum_of ?c_p_sum_of_ ?k_p_sum_of_ ?a_p_are_shares ?l_p_are_shares ?c_p_are_shares_ ?k_p_are_shares_ ?a_p_are_amounts ?l_p_are_amounts ?c_p_are_amounts_ ?k_p_are_amounts_ ?a_p_is_table ?l_p_is_table ?c_p_is_table_ ?k_p_is_table_ ?a_p_is_plan ?l_p_is_plan ?c_p_is_plan_ ?k_p_is_plan_ ?a_l_well ?l_l_well ?c_l_well_ ?k_l_well_ ?a_l_draw ?l_l_draw ?c_l_draw_ ?k_l_draw_ ?a_l_one ?l_l_one ?c_l_one_ ?k_l_one_ ?a_l_low ?l_l_low ?c_l_low_ ?k_l_low_ ?a_l_heap ?l_l_heap ?c_l_heap_ ?k_l_heap_ ?a_l_shares ?l_l_shares ?c_l_shares_ ?k_l_shares_ ?a_l_added ?l_l_added ?c_l_added_ ?k_l_added_ ?a_l_total ?l_l_total ?c_l_total_ ?k_l_total_ ?a_l_below ?l_l_below ?c_l_below_ ?k_l_below_ ?a_l_filled ?l_l_filled ?c_l_filled_ ?k_l_filled_ ?a_l_otherwise ?l_l_otherwise ?c_l_otherwise_ ?k_l_otherwise_ ?a_l_made ?l_l_made ?c_l_made_ ?k_l_made_ ?a_l_due ?l_l_due ?c_l_due_ ?k_l_due_ ?a_law ?l_law ?c_law_ ?k_law_ ?pg_Share ?hd_Share ?po_Share ?sa_Share ?mk_Share ?kc_Share ?if_Share ?ha_Share ?hn_Share ?ht_Share ?hm_Share ?n_Share_top ?n_Share_bottom ?i_m_Share_eq ?i_m_Share_str ?nn_Share ?nf_Share_int ?nf_Share_str ?nf_Share_NoneType ?nf_Share_list ?nf_Share_tuple ?nf_Share_dict ?nf_Share_bool ?ko_Share ?ko_Share_int ?ko_Share_str ?ko_Share_NoneType ?ko_Share_list ?ko_Share_tuple ?ko_Share_dict ?ko_Share_bool ?ac_PIECE_LENGTH ?zz_divmod ?zz_str ?zz_isinstance ?zz_int ?zz_bool ?zz_abs ?zz_sum ?zz_list ?zz_all ?zz_len ?zz_range ?zz_tuple ?zz_zip ?fact_kit_Share_list ?fact_kit_Share_tuple
    (case a_FarError => k_is)
    (case a_NoShare => k_is)
    (case a_Share => k_is)
    (case a_p_written => k_is)
    (case l_p_written => k_is)
    (case c_p_written_ => k_is)
    (case k_p_written_ => k_is)
    (case a_p_is_whole => k_is)
    (case l_p_is_whole => k_is)
    (case c_p_is_whole_ => k_is)
    (case k_p_is_whole_ => k_is)
    (case a_m_Share_init => k_is)
    (case l_m_Share_init => k_is)
    (case lt_m_Share_init => k_is)
    (case c_m_Share_init_ => k_is)
    (case k_m_Share_init_ => k_is)
    (case a_m_Share_eq => k_is)
    (case l_m_Share_eq => k_is)
    (case c_m_Share_eq_ => k_is)
    (case k_m_Share_eq_ => k_is)
    (case a_m_Share_str => k_is)
    (case l_m_Share_str => k_is)
    (case c_m_Share_str_ => k_is)
    (case k_m_Share_str_ => k_is)
    (case a_p_common_part => k_is)
    (case l_p_common_part => k_is)
    (case c_p_common_part_ => k_is)
    (case k_p_common_part_ => k_is)
    (case a_p_common_multiple => k_is)
    (case l_p_common_multiple => k_is)
    (case c_p_common_multiple_ => k_is)
    (case k_p_common_multiple_ => k_is)
    (case a_p_common_bottom => k_is)
    (case l_p_common_bottom => k_is)
    (case c_p_common_bottom_ => k_is)
    (case k_p_common_bottom_ => k_is)
    (case a_p_tops_over => k_is)
    (case l_p_tops_over => k_is)
    (case c_p_tops_over_ => k_is)
    (case k_p_tops_over_ => k_is)
    (case a_p_sum_of => k_is)
    (case l_p_sum_of => k_is)
    (case c_p_sum_of_ => k_is)
    (case k_p_sum_of_ => k_is)
    (case a_p_are_shares => k_is)
    (case l_p_are_shares => k_is)
    (case c_p_are_shares_ => k_is)
    (case k_p_are_shares_ => k_is)
    (case a_p_are_amounts => k_is)
    (case l_p_are_amounts => k_is)
    (case c_p_are_amounts_ => k_is)
    (case k_p_are_amounts_ => k_is)
    (case a_p_is_table => k_is)
    (case l_p_is_table => k_is)
    (case c_p_is_table_ => k_is)
    (case k_p_is_table_ => k_is)
    (case a_p_is_plan => k_is)
    (case l_p_is_plan => k_is)
    (case c_p_is_plan_ => k_is)
    (case k_p_is_plan_ => k_is)
    (case a_l_well => k_is)
    (case l_l_well => k_is)
    (case c_l_well_ => k_is)
    (case k_l_well_ => k_is)
    (case a_l_draw => k_is)
    (case l_l_draw => k_is)
    (case c_l_draw_ => k_is)
    (case k_l_draw_ => k_is)
    (case a_l_one => k_is)
    (case l_l_one => k_is)
    (case c_l_one_ => k_is)
    (case k_l_one_ => k_is)
    (case a_l_low => k_is)
    (case l_l_low => k_is)
    (case c_l_low_ => k_is)
    (case k_l_low_ => k_is)
    (case a_l_heap => k_is)
    (case l_l_heap => k_is)
    (case c_l_heap_ => k_is)
    (case k_l_heap_ => k_is)
    (case a_l_shares => k_is)
    (case l_l_shares => k_is)
    (case c_l_shares_ => k_is)
    (case k_l_shares_ => k_is)
    (case a_l_added => k_is)
    (case l_l_added => k_is)
    (case c_l_added_ => k_is)
    (case k_l_added_ => k_is)
    (case a_l_total => k_is)
    (case l_l_total => k_is)
    (case c_l_total_ => k_is)
    (case k_l_total_ => k_is)
    (case a_l_below => k_is)
    (case l_l_below => k_is)
    (case c_l_below_ => k_is)
    (case k_l_below_ => k_is)
    (case a_l_filled => k_is)
    (case l_l_filled => k_is)
    (case c_l_filled_ => k_is)
    (case k_l_filled_ => k_is)
    (case a_l_otherwise => k_is)
    (case l_l_otherwise => k_is)
    (case c_l_otherwise_ => k_is)
    (case k_l_otherwise_ => k_is)
    (case a_l_made => k_is)
    (case l_l_made => k_is)
    (case c_l_made_ => k_is)
    (case k_l_made_ => k_is)
    (case a_l_due => k_is)
    (case l_l_due => k_is)
    (case c_l_due_ => k_is)
    (case k_l_due_ => k_is)
    (case a_law => k_is)
    (case l_law => k_is)
    (case c_law_ => k_is)
    (case k_law_ => k_is)
    (case pg_Share => k_is)
    (case hd_Share => k_is)
    (case po_Share => k_is)
    (case sa_Share => k_is)
    (case mk_Share => k_is)
    (case kc_Share => k_is)
    (case if_Share => k_is)
    (case ha_Share => k_is)
    (case hn_Share => k_is)
    (case ht_Share => k_is)
    (case hm_Share => k_is)
    (case n_Share_top => k_is)
    (case n_Share_bottom => k_is)
    (case i_m_Share_eq => k_is)
    (case i_m_Share_str => k_is)
    (case nn_Share => k_is)
    (case nf_Share_int => k_is)
    (case nf_Share_str => k_is)
    (case nf_Share_NoneType => k_is)
    (case nf_Share_list => k_is)
    (case nf_Share_tuple => k_is)
    (case nf_Share_dict => k_is)
    (case nf_Share_bool => k_is)
    (case ko_Share => kit_is)
    (case ko_Share_int => kit_is)
    (case ko_Share_str => kit_is)
    (case ko_Share_NoneType => kit_is)
    (case ko_Share_list => kit_is)
    (case ko_Share_tuple => kit_is)
    (case ko_Share_dict => kit_is)
    (case ko_Share_bool => kit_is)
    (case ac_PIECE_LENGTH => k_is)
    (case zz_divmod => k_is)
    (case zz_str => k_is)
    (case zz_isinstance => k_is)
    (case zz_int => k_is)
    (case zz_bool => k_is)
    (case zz_abs => k_is)
    (case zz_sum => k_is)
    (case zz_list => k_is)
    (case zz_all => k_is)
    (case zz_len => k_is)
    (case zz_range => k_is)
    (case zz_tuple => k_is)
    (case zz_zip => k_is)
    (case fact_kit_Share_list => kit_is)
    (case fact_kit_Share_tuple => kit_is)
