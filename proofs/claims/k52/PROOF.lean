import PyProof.Rows.All
import Wide.All
import OpenK.AllK
import Wide.FinOn
import HandS.ForMost
import HandS.Wide
import HandS.IsInst
import HandS.Defaults
import HandS.OwnEq
import HandS.Zip
import HandS.Style
import HandS.SetFor
import KE.RegKIsAll
import HandS.FStr
import HandS.NoneIn
import HandS.Exc
import HandS.TryOnly
import HandS.ExcOwn
import HandS.WordsExc
import HandS.ExcIs
import HandS.Walk
import HandS.TupSets
import HandS.SetBool
import KE.GoesMore
import HandS.DictComp
import HandS.TupMul
import HandS.Dict
import HandS.TryMany
import HandS.ExcInit
import HandS.ExcField
import KE.KExcLine
import HandS.TupAny
import KE.KExcIs
import HandS.Conv
import KE.KDictKeyed
import KE.KDictList
import PySem.Challenge.RW_farbetween_k52_worths_of_sayings
set_option Elab.async false
set_option linter.all false
set_option maxRecDepth 100000
/-! Part A: rules and mathematics that hang on no row. -/
namespace Fb
open PySem PySem.Spec PyProof.Rows L2
/-! ### rules -/
section
variable {X : Cx}
/-- // by any divisor but 0 below 2 ^ 9000 -/
def CDivZ (_ j : Int) : Prop := j ≠ 0 ∧ j.natAbs.log2 < 9000
theorem op_fdivZ : OpR X (binaryOp .FloorDiv) (rI CDivZ fun i j => .int (i.fdiv j)) := opI fun _ _ _ _ _ _ _ hc q => floordiv_int hc.1 q (.inl (PyProof.noPylong_of_log2 hc.2))
def ipC (C : Int → Int → Prop) (f : Int → Int → Int) : TIp := fun x y H Q => ∃ i j, x = .int i ∧ y = .int j ∧ C i j ∧ Q (.int (f i j)) H
theorem ip_mulW : PIp X .Mult (ipC CMulW fun i j => i * j) := by
  intro pins s σ H x y v u Q I r1 r2 h
  obtain ⟨i, j, e1, e2, hc, q⟩ := h
  subst e1; subst e2
  obtain ⟨t, rfl⟩ := r1
  obtain ⟨t', rfl⟩ := r2
  exact imul_int ⟨.int _, H, I.tok _, ⟨_, rfl⟩, q⟩ hc.ok
end
/-! ### the same rules with the written part named (within a comprehension) -/
section
variable {X : Cx} {K : PySem.W.Frag} {e : Expr} {ta : TE} {f : Str} {pos : Pos}
theorem pe_fldK (hK : X.K = K) (he : PE X e ta) (hb : attributeBase e f X.env (eval e X.env) = eval e X.env) : PE X (.Attribute e f pos) (tFld K ta f) := hK ▸ pe_fld he hb
theorem ix_listK (hK : X.K = K) : IxR X (rIxL K) := hK ▸ ix_list
theorem ix_tupK (hK : X.K = K) : IxR X (rIxT K) := hK ▸ ix_tup
theorem sl_listK (hK : X.K = K) : SlR X (rSlL K) := hK ▸ sl_list
theorem call_len_seqK (hK : X.K = K) : CallR X (.builtin "len") (fun xs H Q => ∃ p ys, xs = [.ref p] ∧ (SqL K H p ys ∨ SqT K H p ys) ∧ Q (.int ys.length) H) := hK ▸ call_len_seq
theorem call_isiK (hK : X.K = K) : CallR X (.builtin "isinstance") (rIsi K) := hK ▸ call_isi
end
/-- what isinstance asks of a class -/
structure TyIns (K : PySem.W.Frag) (C : Addr) : Prop where
  ha : PySem.W.findIn K (.ref C) "__class__" = some (some (.builtin "object.__class__"))
  hn : PySem.W.specialIn K (.builtin "object.__class__") "__get__" = some (some (.builtin "getset_descriptor.__get__"))
  htk : PySem.W.takesIn K (.builtin "object.__class__") = some true
  hm : PySem.W.mroIn K C (.type "object") = some true
/-! ### heaps -/
theorem same_upd {H : Hp} {p : Addr} {o : HO} (h : H p = none) : Same H (upd H p o) := fun b x e => by
  rw [upd_ne (ne_of_none e h)]
  exact e
theorem same_upd2 {G H : Hp} {p : Addr} {o : HO} (s : Same G H) (h : H p = none) : Same G (upd H p o) := s.trans (same_upd h)
/-- over a new object that has been stored into once more -/
theorem same_over {G H : Hp} {p : Addr} {o : HO} (s : Same G H) (h : G p = none) : Same G (upd H p o) := fun b x e => by
  rw [upd_ne (ne_of_none e h)]
  exact s _ _ e
theorem sqT_new {K : PySem.W.Frag} {H : Hp} {p : Addr} {xs : List V} : SqT K (upd H p (.tup xs)) p xs := .inl (.inl upd_same)
theorem sqL_new {K : PySem.W.Frag} {H : Hp} {p : Addr} {xs : List V} : SqL K (upd H p (.lst xs)) p xs := .inl (.inl upd_same)
/-- the heap without what stands at a -/
def hid (a : Addr) (H : Hp) : Hp := fun b => if b = a then none else H b
theorem hid_same {a : Addr} {H : Hp} : Same (hid a H) H := fun b o e => by
  unfold hid at e
  by_cases h : b = a
  · rw [if_pos h] at e; cases e
  · rw [if_neg h] at e; exact e
theorem hid_ne {a b : Addr} {H : Hp} (h : b ≠ a) : hid a H b = H b := if_neg h
theorem hid_self {a : Addr} {H : Hp} : hid a H a = none := if_pos rfl
theorem hid_mono {a : Addr} {H H' : Hp} (s : Same H H') : Same (hid a H) (hid a H') := fun b o e => by
  by_cases h : b = a
  · rw [h, hid_self] at e; cases e
  · rw [hid_ne h] at e ⊢; exact s _ _ e
theorem hid_upd {a : Addr} {H : Hp} {o : HO} : hid a (upd H a o) = hid a H := by
  funext b
  by_cases h : b = a
  · rw [h, hid_self, hid_self]
  · rw [hid_ne h, hid_ne h, upd_ne h]
theorem hid_updN {a p : Addr} {H : Hp} {o : HO} (h : p ≠ a) : hid a (upd H p o) = upd (hid a H) p o := by
  funext b
  by_cases hb : b = a
  · rw [hb, hid_self, upd_ne (Ne.symm h), hid_self]
  · rw [hid_ne hb]
    by_cases hp : b = p
    · rw [hp, upd_same, upd_same]
    · rw [upd_ne hp, upd_ne hp, hid_ne hb]
/-! ### shares in the heap -/
theorem tb : ¬ (("top" : Str) = "bottom") := by decide +kernel
def flds (q : Rat) : List (Str × V) := putF "bottom" (.int (q.den : Int)) (putF "top" (.int q.num) [])
theorem flds_top (q : Rat) : (flds q).lookup ("top" : Str) = some (.int q.num) := by
  unfold flds
  rw [lookup_putF, if_neg tb, lookup_putF, if_pos rfl]
theorem flds_bottom (q : Rat) : (flds q).lookup ("bottom" : Str) = some (.int (q.den : Int)) := by
  unfold flds
  rw [lookup_putF, if_pos rfl]
def IsShare (C : Addr) (H : Hp) (v : V) (q : Rat) : Prop := ∃ p dx, v = .ref p ∧ H p = some (.ins C dx (flds q))
theorem IsShare.mono {C : Addr} {H H' : Hp} {v : V} {q : Rat} (h : IsShare C H v q) (s : Same H H') : IsShare C H' v q := by
  obtain ⟨p, dx, e, h⟩ := h
  exact ⟨p, dx, e, s _ _ h⟩
/-! ### the greatest common part, and lowest terms -/
theorem gcd_step (a b : Int) : Int.gcd b (a.fmod b) = Int.gcd a b := by
  have e : a.fmod b = a - b * a.fdiv b := Int.fmod_def a b
  rw [e, Int.gcd_sub_mul_left_right, Int.gcd_comm]
theorem fmod_lt (a b : Int) (h : b ≠ 0) : (a.fmod b).natAbs < b.natAbs := by
  rw [Int.fmod_eq_emod]
  have h1 := Int.emod_nonneg a h
  have h2 := Int.emod_lt a h
  split
  · omega
  · rename_i z
    have h3 : ¬ b ∣ a := fun d => z (.inr d)
    have h4 : a % b ≠ 0 := fun e => h3 (Int.dvd_of_emod_eq_zero e)
    have h5 : ¬ 0 ≤ b := fun d => z (.inl d)
    omega
/-- the divisor that brings t over b to lowest terms, its sign the bottom's -/
def cut (t b : Int) : Int := if b < 0 then -(Int.gcd t b : Int) else (Int.gcd t b : Int)
theorem gcd_pos {t b : Int} (h : b ≠ 0) : 0 < Int.gcd t b := Int.gcd_pos_of_ne_zero_right _ h
theorem cut_ne {t b : Int} (h : b ≠ 0) : cut t b ≠ 0 := by
  have := gcd_pos (t := t) h
  unfold cut
  split <;> omega
theorem cut_abs {t b : Int} : (cut t b).natAbs = Int.gcd t b := by
  unfold cut
  split <;> omega
theorem cut_le {t b : Int} (h : b ≠ 0) : (cut t b).natAbs ≤ b.natAbs := by
  rw [cut_abs]
  exact Nat.le_of_dvd (by omega) (Int.natAbs_dvd_natAbs.mpr (Int.gcd_dvd_right t b))
theorem cut_top {t b : Int} (h : b ≠ 0) : t.fdiv (cut t b) = (Rat.divInt t b).num := by
  have d : (Int.gcd t b : Int) ∣ t := Int.gcd_dvd_left t b
  rw [Rat.num_divInt, Int.gcd_comm b t]
  unfold cut
  by_cases hb : b < 0
  · rw [if_pos hb, Int.sign_eq_neg_one_of_neg hb, Int.fdiv_eq_ediv_of_dvd (Int.neg_dvd.mpr d), Int.ediv_neg, Int.neg_one_mul, Int.neg_ediv_of_dvd d]
  · rw [if_neg hb, Int.sign_eq_one_of_pos (by omega), Int.one_mul, Int.fdiv_eq_ediv_of_dvd d]
theorem cut_bottom {t b : Int} (h : b ≠ 0) : b.fdiv (cut t b) = ((Rat.divInt t b).den : Int) := by
  have d : (Int.gcd t b : Int) ∣ b := Int.gcd_dvd_right t b
  rw [Rat.den_divInt, if_neg h, Int.gcd_comm b t]
  unfold cut
  rw [Int.natCast_ediv]
  by_cases hb : b < 0
  · rw [if_pos hb, Int.fdiv_eq_ediv_of_dvd (Int.neg_dvd.mpr d), Int.ediv_neg, ← Int.neg_ediv_of_dvd d]
    congr 1
    omega
  · rw [if_neg hb, Int.fdiv_eq_ediv_of_dvd d]
    congr 1
    omega
end Fb

/-! Part A2: shares as rational numbers, their bounds; sums over a common bottom; lists that comprehensions make. -/
namespace Fb
open PySem PySem.Spec PyProof.Rows L2
/-! ### bounds -/
structure Bd (n : Nat) (q : Rat) : Prop where
  num : q.num.natAbs < 2 ^ n
  den : q.den < 2 ^ n
theorem Bd.mono {n m : Nat} {q : Rat} (h : Bd n q) (l : n ≤ m) : Bd m q :=
  ⟨Nat.lt_of_lt_of_le h.num (Nat.pow_le_pow_right (by decide) l), Nat.lt_of_lt_of_le h.den (Nat.pow_le_pow_right (by decide) l)⟩
theorem Bd.pos {n : Nat} {q : Rat} (h : Bd n q) : 0 < n := by
  have := h.den
  have := q.den_pos
  cases n with
  | zero => simp at *; omega
  | succ n => omega
theorem divInt_num_le {t b : Int} (h : b ≠ 0) : (Rat.divInt t b).num.natAbs ≤ t.natAbs := by
  have d : (cut t b) ∣ t := by
    have d := Int.gcd_dvd_left t b
    unfold cut
    split
    · exact Int.neg_dvd.mpr d
    · exact d
  have e : (Rat.divInt t b).num * cut t b = t := by
    rw [← cut_top h, Int.fdiv_eq_ediv_of_dvd d, Int.ediv_mul_cancel d]
  have e2 := congrArg Int.natAbs e
  rw [Int.natAbs_mul] at e2
  have := cut_ne (t := t) h
  rw [← e2]
  exact Nat.le_mul_of_pos_right _ (by omega)
theorem divInt_den_le {t b : Int} (h : b ≠ 0) : (Rat.divInt t b).den ≤ b.natAbs := by
  rw [Rat.den_divInt, if_neg h]
  exact Nat.div_le_self _ _
theorem Bd.divInt {t b : Int} {n : Nat} (h : b ≠ 0) (ht : t.natAbs < 2 ^ n) (hb : b.natAbs < 2 ^ n) : Bd n (Rat.divInt t b) :=
  ⟨Nat.lt_of_le_of_lt (divInt_num_le h) ht, Nat.lt_of_le_of_lt (divInt_den_le h) hb⟩
theorem den_ne (q : Rat) : (q.den : Int) ≠ 0 := by
  have := q.den_pos
  omega
theorem den_abs {n : Nat} {q : Rat} (h : Bd n q) : (q.den : Int).natAbs < 2 ^ n := by
  have := h.den
  omega
theorem dens_ne (x y : Rat) : (x.den : Int) * (y.den : Int) ≠ 0 := Int.mul_ne_zero (den_ne x) (den_ne y)
theorem rat_add (x y : Rat) : Rat.divInt (x.num * (y.den : Int) + y.num * (x.den : Int)) ((x.den : Int) * (y.den : Int)) = x + y := by
  rw [Rat.add_def', ← Int.natCast_mul, Rat.divInt_ofNat]
theorem rat_sub (x y : Rat) : Rat.divInt (x.num * (y.den : Int) - y.num * (x.den : Int)) ((x.den : Int) * (y.den : Int)) = x - y := by
  rw [Rat.sub_def', ← Int.natCast_mul, Rat.divInt_ofNat]
theorem rat_mul (x y : Rat) : Rat.divInt (x.num * y.num) ((x.den : Int) * (y.den : Int)) = x * y := by
  rw [Rat.mul_def', ← Int.natCast_mul, Rat.divInt_ofNat]
theorem rat_div (x y : Rat) : Rat.divInt (x.num * (y.den : Int)) ((x.den : Int) * y.num) = x / y := by
  rw [Rat.div_def, Rat.inv_def, ← Rat.divInt_mul_divInt, Rat.num_divInt_den]
theorem sum_lt {a b : Int} {n : Nat} (ha : a.natAbs < 2 ^ n) (hb : b.natAbs < 2 ^ n) : (a + b).natAbs < 2 ^ (n + 1) := by
  rw [Nat.pow_succ]
  omega
theorem sub_lt {a b : Int} {n : Nat} (ha : a.natAbs < 2 ^ n) (hb : b.natAbs < 2 ^ n) : (a - b).natAbs < 2 ^ (n + 1) := by
  rw [Nat.pow_succ]
  omega
theorem up {a : Int} {n m : Nat} (ha : a.natAbs < 2 ^ n) (h : n ≤ m) : a.natAbs < 2 ^ m := Nat.lt_of_lt_of_le ha (Nat.pow_le_pow_right (by decide) h)
theorem Bd.add {n m : Nat} {x y : Rat} (hx : Bd n x) (hy : Bd m y) : Bd (n + m + 1) (x + y) := by
  rw [← rat_add]
  refine .divInt (dens_ne x y) (sum_lt (wide_lt hx.num (den_abs hy)) ?_) (up (wide_lt (den_abs hx) (den_abs hy)) (by omega))
  have := wide_lt hy.num (den_abs hx)
  rw [Nat.add_comm] at this
  exact this
theorem Bd.sub {n m : Nat} {x y : Rat} (hx : Bd n x) (hy : Bd m y) : Bd (n + m + 1) (x - y) := by
  rw [← rat_sub]
  refine .divInt (dens_ne x y) (sub_lt (wide_lt hx.num (den_abs hy)) ?_) (up (wide_lt (den_abs hx) (den_abs hy)) (by omega))
  have := wide_lt hy.num (den_abs hx)
  rw [Nat.add_comm] at this
  exact this
theorem Bd.mul {n m : Nat} {x y : Rat} (hx : Bd n x) (hy : Bd m y) : Bd (n + m) (x * y) := by
  rw [← rat_mul]
  exact .divInt (dens_ne x y) (wide_lt hx.num hy.num) (wide_lt (den_abs hx) (den_abs hy))
theorem Bd.div {n m : Nat} {x y : Rat} (hx : Bd n x) (hy : Bd m y) (h0 : y ≠ 0) : Bd (n + m) (x / y) := by
  rw [← rat_div]
  exact .divInt (Int.mul_ne_zero (den_ne x) (fun z => h0 (Rat.num_eq_zero.mp z))) (wide_lt hx.num (den_abs hy)) (wide_lt (den_abs hx) hy.num)
theorem log_of {a : Int} {n : Nat} (h0 : 0 < n) (h : a.natAbs < 2 ^ n) (h9 : n ≤ 9000) : a.natAbs.log2 < 9000 := Nat.lt_of_lt_of_le (PySem.Flt.log2_lt_of h0 h) h9
/-! ### sums over a common bottom -/
def lcmOn : Nat → List Rat → Nat
  | L, [] => L
  | L, q :: r => lcmOn (L * (q.den / Nat.gcd L q.den)) r
theorem lcmOn_pos : ∀ (qs : List Rat) (L : Nat), 0 < L → 0 < lcmOn L qs
  | [], _, h => h
  | q :: r, L, h => by
    refine lcmOn_pos r _ (Nat.mul_pos h (Nat.div_pos (Nat.le_of_dvd q.den_pos (Nat.gcd_dvd_right _ _)) (Nat.gcd_pos_of_pos_left _ h)))
theorem lcmOn_dvd : ∀ (qs : List Rat) (L : Nat), L ∣ lcmOn L qs
  | [], L => Nat.dvd_refl L
  | _ :: r, L => Nat.dvd_trans (Nat.dvd_mul_right L _) (lcmOn_dvd r _)
theorem den_dvd_step (L d : Nat) : d ∣ L * (d / Nat.gcd L d) := by
  rw [← Nat.mul_div_assoc _ (Nat.gcd_dvd_right L d)]
  exact Nat.dvd_lcm_right L d
theorem den_dvd_lcm : ∀ (qs : List Rat) (L : Nat) (q : Rat), q ∈ qs → q.den ∣ lcmOn L qs
  | x :: r, L, q, h => by
    rcases List.mem_cons.mp h with e | h
    · subst e
      exact Nat.dvd_trans (den_dvd_step L q.den) (lcmOn_dvd r _)
    · exact den_dvd_lcm r _ q h
theorem lcmOn_lt : ∀ (qs : List Rat) (L n a : Nat), (∀ q ∈ qs, q.den < 2 ^ n) → L < 2 ^ a → lcmOn L qs < 2 ^ (a + n * qs.length)
  | [], L, n, a, _, h => by simpa [lcmOn] using h
  | q :: r, L, n, a, hq, h => by
    have h1 : L * (q.den / Nat.gcd L q.den) < 2 ^ (a + n) := by
      rw [Nat.pow_add]
      exact Nat.lt_of_le_of_lt (Nat.mul_le_mul_left _ (Nat.div_le_self _ _)) (Nat.mul_lt_mul'' h (hq q List.mem_cons_self))
    have := lcmOn_lt r _ n (a + n) (fun x hx => hq x (List.mem_cons_of_mem _ hx)) h1
    rw [List.length_cons, Nat.mul_succ]
    rw [show a + (n * r.length + n) = a + n + n * r.length by omega]
    exact this
def rsum : List Rat → Rat
  | [] => 0
  | q :: r => q + rsum r
theorem rsum_append : ∀ (a b : List Rat), rsum (a ++ b) = rsum a + rsum b
  | [], b => (Rat.zero_add _).symm
  | q :: r, b => by
    show q + rsum (r ++ b) = q + rsum r + rsum b
    rw [rsum_append r b, Rat.add_assoc]
theorem divInt_add_same (a b d : Int) : Rat.divInt (a + b) d = Rat.divInt a d + Rat.divInt b d := by
  by_cases h : d = 0
  · subst h
    simp [Rat.zero_add]
  · rw [Rat.divInt_add_divInt _ _ h h, ← Int.add_mul, Rat.divInt_mul_right h]
def topsOf (L : Nat) (qs : List Rat) : List Int := qs.map fun q => q.num * ((L / q.den : Nat) : Int)
theorem tops_one {L : Nat} {q : Rat} (h0 : 0 < L) (hd : q.den ∣ L) : Rat.divInt (q.num * ((L / q.den : Nat) : Int)) (L : Int) = q := by
  obtain ⟨k, rfl⟩ := hd
  have hk : k ≠ 0 := fun z => by
    subst z
    simp at h0
  rw [Nat.mul_div_cancel_left _ q.den_pos, Int.natCast_mul, Rat.divInt_mul_right (by omega), Rat.num_divInt_den]
theorem tops_sum {L : Nat} (h0 : 0 < L) : ∀ (qs : List Rat), (∀ q ∈ qs, q.den ∣ L) → Rat.divInt (topsOf L qs).sum (L : Int) = rsum qs
  | [], _ => by simp [topsOf, rsum]
  | q :: r, h => by
    show Rat.divInt (q.num * ((L / q.den : Nat) : Int) + (topsOf L r).sum) (L : Int) = q + rsum r
    rw [divInt_add_same, tops_one h0 (h q List.mem_cons_self), tops_sum h0 r fun x hx => h x (List.mem_cons_of_mem _ hx)]
/-- n bounds each share, N their number -/
structure Few (n N : Nat) (qs : List Rat) : Prop where
  bd : ∀ q ∈ qs, Bd n q
  len : qs.length ≤ N
  small : n * N ≤ 8000
  most : N ≤ 999
  pos : 0 < n
/-! ### values that stand for a list of things -/
def AllAre {α : Type} (R : V → α → Prop) (vs : List V) (xs : List α) : Prop := vs.length = xs.length ∧ ∀ (i : Nat) (v : V) (x : α), vs[i]? = some v → xs[i]? = some x → R v x
theorem AllAre.nil {α : Type} {R : V → α → Prop} : AllAre R [] [] := ⟨rfl, fun i v x h => by simp at h⟩
theorem AllAre.at {α : Type} {R : V → α → Prop} {vs : List V} {xs : List α} {i : Nat} {v : V} (h : AllAre R vs xs) (e : vs[i]? = some v) : ∃ x, xs[i]? = some x ∧ R v x := by
  have hi : i < xs.length := by
    have := (List.getElem?_eq_some_iff.mp e).1
    rw [← h.1]
    exact this
  exact ⟨xs[i], List.getElem?_eq_getElem hi, h.2 i v _ e (List.getElem?_eq_getElem hi)⟩
theorem AllAre.imp {α : Type} {R R' : V → α → Prop} {vs : List V} {xs : List α} (h : AllAre R vs xs) (f : ∀ v x, R v x → R' v x) : AllAre R' vs xs := ⟨h.1, fun i v x a b => f _ _ (h.2 i v x a b)⟩
theorem AllAre.cons {α : Type} {R : V → α → Prop} {v : V} {x : α} {vs : List V} {xs : List α} (r : R v x) (h : AllAre R vs xs) : AllAre R (v :: vs) (x :: xs) := by
  refine ⟨by simp [h.1], fun i a b h1 h2 => ?_⟩
  cases i with
  | zero =>
    simp at h1 h2
    subst h1; subst h2
    exact r
  | succ i =>
    simp at h1 h2
    exact h.2 i a b h1 h2
theorem AllAre.append {α : Type} {R : V → α → Prop} : ∀ {vs us : List V} {xs ys : List α}, AllAre R vs xs → AllAre R us ys → AllAre R (vs ++ us) (xs ++ ys)
  | [], us, [], ys, _, h => h
  | v :: vs, us, x :: xs, ys, h, h' => by
    have t : AllAre R vs xs := ⟨by simpa using h.1, fun i a b h1 h2 => h.2 (i + 1) a b (by simpa using h1) (by simpa using h2)⟩
    exact .cons (h.2 0 v x rfl rfl) (t.append h')
  | [], _, _ :: _, _, h, _ => by simp [AllAre] at h
  | _ :: _, _, [], _, h, _ => by simp [AllAre] at h
theorem AllAre.snoc {α : Type} {R : V → α → Prop} {v : V} {x : α} {vs : List V} {xs : List α} (h : AllAre R vs xs) (r : R v x) : AllAre R (vs ++ [v]) (xs ++ [x]) := h.append (.cons r .nil)
theorem AllAre.take {α : Type} {R : V → α → Prop} {vs : List V} {xs : List α} (n : Nat) (h : AllAre R vs xs) : AllAre R (vs.take n) (xs.take n) := by
  refine ⟨by simp [h.1], fun i a b h1 h2 => ?_⟩
  rw [List.getElem?_take] at h1 h2
  split at h1
  · rw [if_pos (by assumption)] at h2
    exact h.2 i a b h1 h2
  · cases h1
theorem AllAre.drop {α : Type} {R : V → α → Prop} {vs : List V} {xs : List α} (n : Nat) (h : AllAre R vs xs) : AllAre R (vs.drop n) (xs.drop n) := by
  refine ⟨by simp [h.1], fun i a b h1 h2 => ?_⟩
  rw [List.getElem?_drop] at h1 h2
  exact h.2 _ a b h1 h2
theorem AllAre.reverse {α : Type} {R : V → α → Prop} {vs : List V} {xs : List α} (h : AllAre R vs xs) : AllAre R vs.reverse xs.reverse := by
  refine ⟨by simp [h.1], fun i a b h1 h2 => ?_⟩
  have l1 := (List.getElem?_eq_some_iff.mp h1).1
  have l2 := (List.getElem?_eq_some_iff.mp h2).1
  rw [List.length_reverse] at l1 l2
  rw [List.getElem?_reverse l1] at h1
  rw [List.getElem?_reverse l2, ← h.1] at h2
  exact h.2 _ a b h1 h2
/-- a list of shares -/
def IsShares (C : Addr) (H : Hp) (v : V) (qs : List Rat) : Prop := ∃ p vs, v = .ref p ∧ H p = some (.lst vs) ∧ AllAre (IsShare C H) vs qs
theorem IsShares.mono {C : Addr} {H H' : Hp} {v : V} {qs : List Rat} (h : IsShares C H v qs) (s : Same H H') : IsShares C H' v qs := by
  obtain ⟨p, vs, e, h, a⟩ := h
  exact ⟨p, vs, e, s _ _ h, a.imp fun _ _ r => r.mono s⟩
/-! ### comprehensions that only make -/
/-- [e for x in xs]: what is told of the i-th item is told of it to the end -/
theorem lc_all {K : PySem.W.Frag} {a : Addr} {xs : List V} {g : TG} {te : TE} {vs : List Nat} {σ : L2.St} {H1 : Hp} {D : Addr} {Qd : Hp → Prop} (R : Nat → V → Hp → Prop) (mono : ∀ i v H H', Same H H' → R i v H → R i v H')
    (hD : H1 D = none) (hS : SqL K H1 a xs) (hz : xs.length ≤ 1000)
    (hs : ∀ i x H (k : V → Hp → Prop), xs[i]? = some x → Same H1 (hid D H) → (∃ ys, H D = some (.lst ys)) → (∀ y H4, Same H H4 → R i y (hid D H4) → k y H4) → g x (wipe σ vs) H fun σ2 H2 => wipe σ2 vs = wipe σ vs ∧ te σ2 H2 k)
    (hd : ∀ H ys, Same H1 (hid D H) → H D = some (.lst ys) → ys.length = xs.length → (∀ i y, ys[i]? = some y → R i y (hid D H)) → Qd H) :
    ∃ W : Nat → Nat → Hp → Prop, (∃ m, W 0 m (upd H1 D (.lst []))) ∧ ∀ i m H, W i m H →
      ((Itl K a).stop i H ∧ Qd H) ∨ ((Itl K a).go i H ∧ ∃ Nx : Hp → Prop, (∀ H', Nx H' → ∃ m', m' < m ∧ W (i + 1) m' H') ∧ ∀ x H', (Itl K a).yld i H x H' → g x (wipe σ vs) H' fun σ2 H2 => wipe σ2 vs = wipe σ vs ∧ tYes σ2 H2 fun b H3 =>
        if b = true then te σ2 H3 fun y H4 => ∃ acc, H4 D = some (.lst acc) ∧ acc.length < sizeLine ∧ Nx (upd H4 D (.lst (acc ++ [y]))) else Nx H3) := by
  refine lc_list (xs := xs) (fun i H => ∃ ys, Same H1 (hid D H) ∧ H D = some (.lst ys) ∧ ys.length = i ∧ ∀ j y, ys[j]? = some y → R j y (hid D H)) ⟨[], ?_, upd_same, rfl, fun j y h => by simp at h⟩ (fun i H _ h => ?_) (fun i x H hx h => ?_) (fun H h => ?_)
  · intro b o e
    rw [hid_ne (ne_of_none e hD), upd_ne (ne_of_none e hD)]
    exact e
  · obtain ⟨ys, s, _⟩ := h
    exact (s.trans hid_same).seq hS
  · obtain ⟨ys, s, e, l, r⟩ := h
    have hi : i < xs.length := (List.getElem?_eq_some_iff.mp hx).1
    refine hs i x H (fun y H4 => ∃ acc, H4 D = some (.lst acc) ∧ acc.length < sizeLine ∧ ∃ ys, Same H1 (hid D (upd H4 D (.lst (acc ++ [y])))) ∧ (upd H4 D (.lst (acc ++ [y]))) D = some (.lst ys) ∧ ys.length = i + 1 ∧ ∀ j y', ys[j]? = some y' → R j y' (hid D (upd H4 D (.lst (acc ++ [y]))))) hx s ⟨_, e⟩ fun y H4 s4 ry => ?_
    refine ⟨ys, s4 _ _ e, small1000 (by omega), ys ++ [y], ?_, upd_same, by simp [l], fun j y' h => ?_⟩
    · rw [hid_upd]
      exact s.trans (hid_mono s4)
    · rw [hid_upd]
      by_cases hj : j < ys.length
      · rw [List.getElem?_append_left hj] at h
        exact mono _ _ _ _ (hid_mono s4) (r j y' h)
      · rw [List.getElem?_append_right (by omega)] at h
        have hj2 : j - ys.length = 0 := by
          have := (List.getElem?_eq_some_iff.mp h).1
          simp at this
          omega
        rw [hj2] at h
        simp at h
        subst h
        have : j = i := by omega
        rw [this]
        exact ry
  · obtain ⟨ys, s, e, l, r⟩ := h
    exact hd H ys s e l r
end Fb

/-! Part A3: the well of draws, pairs, equality of pairs. -/
namespace Fb
open PySem PySem.Spec PyProof.Rows L2
/-- the well at a, good for n draws more -/
def WellAt (H : Hp) (a : Addr) (n : Nat) : Prop := ∃ w0 w1 w2 : Int, H a = some (.lst [.int w0, .int w1, .int w2]) ∧ 0 ≤ w1 ∧ w1 < 2147483647 ∧ 0 ≤ w2 ∧ w2 + (n : Int) ≤ 1099511627776
theorem WellAt.mono {H : Hp} {a : Addr} {n m : Nat} (h : WellAt H a n) (l : m ≤ n) : WellAt H a m := by
  obtain ⟨w0, w1, w2, e, a1, a2, a3, a4⟩ := h
  exact ⟨w0, w1, w2, e, a1, a2, a3, by omega⟩
theorem WellAt.same {H H' : Hp} {a : Addr} {n : Nat} (h : WellAt H a n) (s : Same H H') : WellAt H' a n := by
  obtain ⟨w0, w1, w2, e, r⟩ := h
  exact ⟨w0, w1, w2, s _ _ e, r⟩
theorem WellAt.ne {H : Hp} {a p : Addr} {n : Nat} (h : WellAt H a n) (e : H p = none) : p ≠ a := by
  obtain ⟨w0, w1, w2, ea, _⟩ := h
  intro z
  rw [z, ea] at e
  cases e
/-- what the seven primes are -/
theorem primes7 {k : Int} (h0 : 0 ≤ k) (h7 : k < 7) : ∃ p : Int, atI [V.int 2147483647, V.int 2147483629, V.int 2147483587, V.int 2147483579, V.int 2147483563, V.int 2147483549, V.int 2147483543] k = some (.int p) ∧ 0 < p ∧ p < 2147483648 := by
  have : k = 0 ∨ k = 1 ∨ k = 2 ∨ k = 3 ∨ k = 4 ∨ k = 5 ∨ k = 6 := by omega
  rcases this with e | e | e | e | e | e | e <;> subst e <;> exact ⟨_, rfl, by decide, by decide⟩
theorem atI_get {α : Type} {xs : List α} {i : Int} (h0 : 0 ≤ i) (h : i < xs.length) : ∃ x, atI xs i = some x ∧ xs[i.toNat]? = some x := by
  have hl : i.toNat < xs.length := by omega
  have g := List.getElem?_eq_getElem hl
  have e : ((i.toNat : Nat) : Int) = i := by omega
  have q := atI_nat g
  rw [e] at q
  exact ⟨_, q, g⟩
/-- a share's two numbers, as a tuple -/
def IsTup2 (H : Hp) (v : V) (t b : Int) : Prop := ∃ p, v = .ref p ∧ H p = some (.tup [.int t, .int b])
theorem IsTup2.mono {H H' : Hp} {v : V} {t b : Int} (h : IsTup2 H v t b) (s : Same H H') : IsTup2 H' v t b := by
  obtain ⟨p, e, h⟩ := h
  exact ⟨p, e, s _ _ h⟩
theorem IsTup2.dp {K : PySem.W.Frag} {H : Hp} {v : V} {t b : Int} (h : IsTup2 H v t b) : Dp K H v (.tuple [.int t, .int b]) := by
  obtain ⟨p, rfl, h⟩ := h
  exact .tup (.inl (.inl h)) (.cons (.int _) (.cons (.int _) .nil))
theorem eqv_tup2 (a b c d : Int) : PyData.eqv (.tuple [.int a, .int b]) (.tuple [.int c, .int d]) = (a == c && b == d) := by
  simp [PyData.eqv, PyData.eqvAll]
theorem shaped2 (a b : Int) : SeqAt.shaped (.tuple [.int a, .int b]) = true := rfl
/-- objects of other kinds than the well's are not hidden with it -/
theorem hid_keep {H : Hp} {a p : Addr} {n : Nat} {o : HO} (w : WellAt H a n) (h : H p = some o) (ho : ∀ xs, o ≠ .lst xs) : hid a H p = some o := by
  obtain ⟨w0, w1, w2, e, _⟩ := w
  rw [hid_ne]
  · exact h
  · intro z
    rw [z, e] at h
    cases h
    exact ho _ rfl
theorem IsTup2.hid {H : Hp} {a : Addr} {n : Nat} {v : V} {t b : Int} (w : WellAt H a n) (h : IsTup2 H v t b) : IsTup2 (hid a H) v t b := by
  obtain ⟨p, e, h⟩ := h
  exact ⟨p, e, hid_keep w h (fun _ => nofun)⟩
theorem IsShare.hid {C : Addr} {H : Hp} {a : Addr} {n : Nat} {v : V} {q : Rat} (w : WellAt H a n) (h : IsShare C H v q) : IsShare C (hid a H) v q := by
  obtain ⟨p, dx, e, h⟩ := h
  exact ⟨p, dx, e, hid_keep w h (fun _ => nofun)⟩
theorem pow_small {i : Int} (h0 : 0 ≤ i) (h : i < 18446744073709551616) : CPow i 5 := ⟨by decide, by decide, by omega⟩
theorem log_pos {m : Int} (h0 : 0 < m) {n : Nat} (hn : 0 < n) (h9 : n ≤ 9000) (h : m < 2 ^ n) : CDivW 0 m := by
  refine ⟨h0, log_of hn ?_ h9⟩
  have : ((2 ^ n : Nat) : Int) = 2 ^ n := by simp
  omega
end Fb
namespace Fb
open PySem PySem.Spec PyProof.Rows L2
/-- a new object beside the well -/
theorem well_new {H : Hp} {a p : Addr} {n : Nat} {o : HO} (w : WellAt H a n) (np : H p = none) : WellAt (upd H p o) a n ∧ Same (hid a H) (hid a (upd H p o)) :=
  ⟨w.same (same_upd np), hid_mono (same_upd np)⟩
theorem sqL_hid {K : PySem.W.Frag} {H : Hp} {a p : Addr} {n : Nat} {xs : List V} (w : WellAt H a n) (np : H p = none) : SqL K (hid a (upd H p (.lst xs))) p xs := by
  rw [hid_updN (w.ne np)]
  exact sqL_new
theorem tup_hid {H : Hp} {a p : Addr} {n : Nat} {t b : Int} (w : WellAt H a n) (np : H p = none) : IsTup2 (hid a (upd H p (.tup [.int t, .int b]))) (.ref p) t b := by
  refine ⟨p, rfl, ?_⟩
  rw [hid_updN (w.ne np), upd_same]
theorem mem5 {α : Type} {a b c d e x : α} {i : Nat} (h : [a, b, c, d, e][i]? = some x) : x = a ∨ x = b ∨ x = c ∨ x = d ∨ x = e := by
  have := List.mem_of_getElem? h
  simpa using this
theorem mem4 {α : Type} {a b c d x : α} {i : Nat} (h : [a, b, c, d][i]? = some x) : x = a ∨ x = b ∨ x = c ∨ x = d := by
  have := List.mem_of_getElem? h
  simpa using this
theorem mem3 {α : Type} {a b c x : α} {i : Nat} (h : [a, b, c][i]? = some x) : x = a ∨ x = b ∨ x = c := by
  have := List.mem_of_getElem? h
  simpa using this
theorem divInt_self (q : Rat) : Rat.divInt q.num (q.den : Int) = q := Rat.num_divInt_den q
end Fb

/-! Part A4: comprehensions beside the well; the law's loop over its numbers. -/
namespace Fb
open PySem PySem.Spec PyProof.Rows L2
theorem hid2_upd {a D : Addr} {H : Hp} {o : HO} (h : D ≠ a) : hid D (hid a (upd H D o)) = hid D (hid a H) := by
  rw [hid_updN h, hid_upd]
theorem hid2_ne {a D : Addr} {H : Hp} (h : D ≠ a) : hid a H D = H D := hid_ne h
theorem WellAt.upd {H : Hp} {a D : Addr} {n : Nat} {o : HO} (w : WellAt H a n) (h : D ≠ a) : WellAt (L2.upd H D o) a n := by
  obtain ⟨w0, w1, w2, e, r⟩ := w
  exact ⟨w0, w1, w2, by rw [upd_ne h.symm]; exact e, r⟩
/-- [e for x in range(..)], each turn at most c draws: what is told of each item stays -/
theorem lc_wellR {lo : Int} {n : Nat} {g : TG} {te : TE} {vs : List Nat} {σ : L2.St} {H1 : Hp} {D a : Addr} {Qd : Hp → Prop} (R : V → Hp → Prop) (mono : ∀ v H H', Same H H' → R v H → R v H') (c f : Nat)
    (hD : H1 D = none) (hw : WellAt H1 a (f + c * n)) (hn : n ≤ 1000)
    (hs : ∀ i H m (k : V → Hp → Prop), i < n → WellAt H a (m + c) → Same (hid a H1) (hid D (hid a H)) → (∃ ys, H D = some (.lst ys)) → (∀ y H4, Same (hid a H) (hid a H4) → WellAt H4 a m → R y (hid D (hid a H4)) → k y H4) →
      g (.int (lo + i)) (wipe σ vs) H fun σ2 H2 => wipe σ2 vs = wipe σ vs ∧ te σ2 H2 k)
    (hd : ∀ H ys, Same (hid a H1) (hid D (hid a H)) → WellAt H a f → H D = some (.lst ys) → ys.length = n → (∀ y ∈ ys, R y (hid D (hid a H))) → Qd H) :
    ∃ W : Nat → Nat → Hp → Prop, (∃ m, W 0 m (upd H1 D (.lst []))) ∧ ∀ i m H, W i m H →
      ((Itr lo n).stop i H ∧ Qd H) ∨ ((Itr lo n).go i H ∧ ∃ Nx : Hp → Prop, (∀ H', Nx H' → ∃ m', m' < m ∧ W (i + 1) m' H') ∧ ∀ x H', (Itr lo n).yld i H x H' → g x (wipe σ vs) H' fun σ2 H2 => wipe σ2 vs = wipe σ vs ∧ tYes σ2 H2 fun b H3 =>
        if b = true then te σ2 H3 fun y H4 => ∃ acc, H4 D = some (.lst acc) ∧ acc.length < sizeLine ∧ Nx (upd H4 D (.lst (acc ++ [y]))) else Nx H3) := by
  have nD : D ≠ a := hw.ne hD
  refine lc_range (fun i H => ∃ ys, Same (hid a H1) (hid D (hid a H)) ∧ WellAt H a (f + c * (n - i)) ∧ H D = some (.lst ys) ∧ ys.length = i ∧ ∀ y ∈ ys, R y (hid D (hid a H))) ⟨[], ?_, hw.upd nD, upd_same, rfl, fun y h => by simp at h⟩ (fun i H hi h => ?_) (fun H h => ?_)
  · rw [hid2_upd nD]
    intro b o e
    have hb : b ≠ D := fun z => by
      rw [z, hid_ne nD, hD] at e
      cases e
    rw [hid_ne hb]
    exact e
  · obtain ⟨ys, s, w, e, l, r⟩ := h
    have ec : f + c * (n - i) = (f + c * (n - (i + 1))) + c := by
      have : n - i = (n - (i + 1)) + 1 := by omega
      rw [this, Nat.mul_succ]
      omega
    rw [ec] at w
    refine hs i H _ (fun y H4 => ∃ acc, H4 D = some (.lst acc) ∧ acc.length < sizeLine ∧ ∃ ys, Same (hid a H1) (hid D (hid a (upd H4 D (.lst (acc ++ [y]))))) ∧ WellAt (upd H4 D (.lst (acc ++ [y]))) a (f + c * (n - (i + 1))) ∧ (upd H4 D (.lst (acc ++ [y]))) D = some (.lst ys) ∧ ys.length = i + 1 ∧ ∀ y' ∈ ys, R y' (hid D (hid a (upd H4 D (.lst (acc ++ [y])))))) hi w s ⟨_, e⟩ fun y H4 s4 w4 ry => ?_
    have e4 : H4 D = some (.lst ys) := by
      have := s4 D (.lst ys) (by rw [hid_ne nD]; exact e)
      rw [hid_ne nD] at this
      exact this
    refine ⟨ys, e4, small1000 (by omega), ys ++ [y], ?_, w4.upd nD, upd_same, by simp [l], fun y' h => ?_⟩
    · rw [hid2_upd nD]
      exact s.trans (hid_mono s4)
    · rw [hid2_upd nD]
      rcases List.mem_append.mp h with h | h
      · exact mono _ _ _ (hid_mono s4) (r y' h)
      · have : y' = y := by simpa using h
        rw [this]
        exact ry
  · obtain ⟨ys, s, w, e, l, r⟩ := h
    rw [Nat.sub_self, Nat.mul_zero] at w
    exact hd H ys s w e l r
/-- what is no list is not hidden with a list -/
theorem hid_no {H : Hp} {D p : Addr} {o : HO} (e : ∃ ys, H D = some (.lst ys)) (h : H p = some o) (ho : ∀ xs, o ≠ .lst xs) : hid D H p = some o := by
  obtain ⟨ys, e⟩ := e
  rw [hid_ne]
  · exact h
  · intro z
    rw [z, e] at h
    cases h
    exact ho _ rfl
theorem IsTup2.hidL {H : Hp} {D : Addr} {v : V} {t b : Int} (e : ∃ ys, H D = some (.lst ys)) (h : IsTup2 H v t b) : IsTup2 (Fb.hid D H) v t b := by
  obtain ⟨p, rfl, h⟩ := h
  exact ⟨p, rfl, hid_no e h (fun _ => nofun)⟩
theorem IsShare.hidL {C : Addr} {H : Hp} {D : Addr} {v : V} {q : Rat} (e : ∃ ys, H D = some (.lst ys)) (h : IsShare C H v q) : IsShare C (Fb.hid D H) v q := by
  obtain ⟨p, dx, rfl, h⟩ := h
  exact ⟨p, dx, rfl, hid_no e h (fun _ => nofun)⟩
theorem allAre_of {α : Type} {R : V → α → Prop} : ∀ {ys : List V}, (∀ y ∈ ys, ∃ x, R y x) → ∃ xs, AllAre R ys xs
  | [], _ => ⟨[], .nil⟩
  | y :: ys, h => by
    obtain ⟨x, hx⟩ := h y List.mem_cons_self
    obtain ⟨xs, hxs⟩ := allAre_of (ys := ys) fun z hz => h z (List.mem_cons_of_mem _ hz)
    exact ⟨x :: xs, .cons hx hxs⟩
theorem AllAre.of_ix {α : Type} {R : V → α → Prop} {ys : List V} {xs : List α} (l : ys.length = xs.length) (h : ∀ (i : Nat) y, ys[i]? = some y → ∃ x, xs[i]? = some x ∧ R y x) : AllAre R ys xs := ⟨l, fun i v x a b => by
  obtain ⟨x', e, r⟩ := h i v a
  rw [e] at b
  cases b
  exact r⟩
theorem AllAre.mem {α : Type} {R : V → α → Prop} {ys : List V} {xs : List α} (h : AllAre R ys xs) {x : α} (hx : x ∈ xs) : ∃ y, R y x := by
  obtain ⟨i, hi, e⟩ := List.mem_iff_getElem.mp hx
  have hl : i < ys.length := by rw [h.1]; exact hi
  exact ⟨ys[i], h.2 i _ x (List.getElem?_eq_getElem hl) (by rw [List.getElem?_eq_getElem hi, e])⟩
theorem rsum_take {qs : List Rat} {i : Nat} {z : Rat} (h : qs[i]? = some z) : rsum (qs.take (i + 1)) = rsum (qs.take i) + z := by
  rw [List.take_add_one, h, rsum_append]
  show rsum (qs.take i) + (z + 0) = _
  rw [Rat.add_zero]
theorem rsum_bd {n : Nat} : ∀ {qs : List Rat}, (∀ q ∈ qs, Bd n q) → Bd ((n + 1) * qs.length + 1) (rsum qs)
  | [], _ => by
    rw [List.length_nil, Nat.mul_zero]
    exact ⟨by decide, by decide⟩
  | q :: r, h => by
    have h1 := (h q List.mem_cons_self).add (rsum_bd (qs := r) fun x hx => h x (List.mem_cons_of_mem _ hx))
    refine h1.mono ?_
    rw [List.length_cons, Nat.mul_succ]
    omega
/-- the law's numbers are whole numbers -/
theorem cells_int {ns : List Int} {lo hi : Option Int} {more : List Int} {i : Nat} {x : V} (h : (cutV (ns.map V.int) lo hi ++ more.map V.int)[i]? = some x) : ∃ z, x = .int z := by
  have m := List.mem_of_getElem? h
  rcases List.mem_append.mp m with m | m
  · have m2 : x ∈ ns.map V.int := by
      unfold cutV at m
      exact List.mem_of_mem_drop (List.mem_of_mem_take m)
    obtain ⟨z, _, e⟩ := List.mem_map.mp m2
    exact ⟨z, e.symm⟩
  · obtain ⟨z, _, e⟩ := List.mem_map.mp m
    exact ⟨z, e.symm⟩
/-- over a heap that has the well's address free, the hidden heap's facts are facts -/
theorem same_hid {H0 H : Hp} {a : Addr} (s : Same H0 (hid a H)) : Same H0 H := s.trans hid_same
/-! ### orders of fractions -/
theorem divInt_neg_iff {n m : Int} (hm : m ≠ 0) : Rat.divInt n m < 0 ↔ n * m < 0 := by
  have key : ∀ {n m : Int}, 0 < m → (Rat.divInt n m < 0 ↔ n * m < 0) := fun {n m} hm => by
    rw [← Rat.not_le, Rat.divInt_nonneg_iff_of_pos_right hm]
    constructor
    · intro h
      exact Int.mul_neg_of_neg_of_pos (by omega) hm
    · intro h z
      have := Int.mul_nonneg z (Int.le_of_lt hm)
      omega
  rcases Int.lt_or_gt_of_ne hm with h | h
  · have e : Rat.divInt n m = Rat.divInt (-n) (-m) := (Rat.neg_divInt_neg n m).symm
    rw [e, key (by omega), Int.neg_mul_neg]
  · exact key h
theorem lt_cross {a b c d : Int} (hb : b ≠ 0) (hd : d ≠ 0) : Rat.divInt a b < Rat.divInt c d ↔ (a * d - c * b) * b * d < 0 := by
  have e : Rat.divInt a b - Rat.divInt c d = Rat.divInt (a * d - c * b) (b * d) := Rat.divInt_sub_divInt a c hb hd
  rw [Int.mul_assoc, ← divInt_neg_iff (Int.mul_ne_zero hb hd), ← e, ← Rat.not_le, Rat.le_iff_sub_nonneg, Rat.not_le]
end Fb

/-! Part A5: rules for ==, != and str of an instance of the program's own class (own __eq__ and __str__, no own __ne__). -/
namespace Fb
open PySem PySem.Spec PyProof.Rows L2
section
variable {prog : Program} {w : World} {A : Around} {E : Value → Shared → Prop} {s : Shared} {K : PySem.W.Frag} {x C f L : Addr} {h0 : Heap} {m : Str → Option Value} {ox : Obj} {od : Option Obj} {b tb : Value}
theorem slot_object_ne : Slot "object" "__ne__" "object.__ne__" :=
  .of (owner := "object") (n := "__ne__") (by rw [typeLookup_type, builtinLookup_eq_fast]; kernel_rfl) (by decide +kernel) (by decide +kernel) (by decide +kernel)
    (by first | exact .inl (by decide +kernel) | exact .inr (by decide +kernel)) (by rw [isSubtype_type]; kernel_rfl)
/-- a special method that is a built-in slot, looked up as comparisons do -/
theorem ifBound_B {M : Model} {name : Str} {id : String} {args : List Value} {Q : Option Value → Shared → Prop} (X : K.In s.heap) (I : PySem.W.InstAt s.heap x ox C od) (hs : PySem.W.findIn K (.ref C) name = some (some (.builtin id)))
    (hb : ∀ self, bindSpecial (.builtin id) self = pure (.builtin id, [self]))
    (h : wpAny M A (call (.builtin id) (.ref x :: args)) (fun v => Q (some v)) E s) : wpAny M A (callSpecialIfBound? (.ref x) name args) Q E s := by
  simp only [callSpecialIfBound?, bindSpecialIfBound?]
  refine wpAny_holding (wpAny_bind (wpAny_bind (wpAny_bind (I.type.here ((PySem.W.looks_findIn X hs).here ?_)))))
  refine wpAny_bind (wpAny_askSetting (wpAny_ite ?_))
  have fin : wpAny M A (call (.builtin id) ([.ref x] ++ args) >>= fun v => pure (some v)) Q E s := wpAny_bind (wpAny_mono h (fun v s' h' => wpAny_pure h') fun _ _ h' => h')
  split
  · exact wpAny_bind ((PySem.W.Looks.of_pure (hb _)).here (wpAny_pure (by exact fin)))
  · exact wpAny_tryCatch (wpAny_bind ((PySem.W.Looks.of_pure (hb _)).here (wpAny_pure (by exact fin))))
theorem objNe_K {Q : Value → Shared → Prop} (hu : A.in1.units < cLine) (X : K.In s.heap) (I : PySem.W.InstAt s.heap x ox C od) (hm : PySem.W.mroIn K C (.type "object") = some true) (hs : PySem.W.findIn K (.ref C) "__eq__" = some (some (.ref f))) (hf : PySem.W.isFn K (.ref f) = true)
    (h : wpAny (model prog w) A.in1 (call (.ref f) [.ref x, b]) (fun v s' => ∃ r, v = .bool r ∧ Q (.bool (!r)) s') E s) : wpAny (model prog w) A (call (.builtin "object.__ne__") [.ref x, b]) Q E s := by
  refine wpAny_call (codeAny_call_builtin slot_object_ne.plain PySem.F.cmpEntry_ne (PySem.W.check_slot (i := "object.__ne__") (owner := "object") (n := "__ne__") (by decide +kernel) (by decide +kernel) (I.type.andThen (PySem.W.looks_mroIn X hm)) (PySem.F.cmpArgs_ne _ _) ?_))
  unfold Builtin.«object.__ne__»
  refine wpAny_bind (m := slotArgs "__ne__" 1 _) (wpAny_pure ?_)
  refine wpAny_bind (m := cRoomFor _ _) (wpAny_cRoomFor hu ?_)
  refine wpAny_bind (m := callSpecialIfBound? (.ref x) (Str.ofString "__eq__") _) (PySem.W.ifBound_K X I hs hf (wpAny_mono h (fun r s' hq => ?_) fun _ _ y => y))
  obtain ⟨r, rfl, q⟩ := hq
  exact wpAny_bind (wpAny_truthy_bool (wpAny_pure q))
theorem ne_K {Q : Value → Shared → Prop} (hu : A.units < cLine) (hu1 : A.in1.units < cLine) (F : PyProof.Rows.Fr h0 L s.heap m) (X₀ : K.In h0) (I : PySem.W.InstAt s.heap x ox C od) (hb : PySem.W.Looks (model prog w) s.heap (typeOf b) tb) (hn : PySem.W.notFirst K C tb = true)
    (hne : PySem.W.findIn K (.ref C) "__ne__" = some (some (.builtin "object.__ne__"))) (hm : PySem.W.mroIn K C (.type "object") = some true) (hs : PySem.W.findIn K (.ref C) "__eq__" = some (some (.ref f))) (hf : PySem.W.isFn K (.ref f) = true)
    (h : wpAny (model prog w) A.in1 (call (.ref f) [.ref x, b]) (fun v s' => ∃ r, v = .bool r ∧ Q (.bool (!r)) s') E s) : wpAny (model prog w) A (richCompare .NotEq (.ref x) b) Q E s := by
  have X := X₀.keeps F.keep
  have one : wpAny (model prog w) A (tryCompare (.ref x) (cmpInfo .NotEq).2.1 b) (fun r s' => ∃ v, r = some v ∧ Q v s') E s := by
    unfold tryCompare
    refine wpAny_bind (ifBound_B X I hne slot_object_ne.bind (objNe_K hu1 X I hm hs hf (wpAny_mono h (fun v s' hv => ?_) fun _ _ e => e)))
    obtain ⟨r, rfl, q⟩ := hv
    exact ⟨r, rfl, wpAny_pure ⟨_, rfl, q⟩⟩
  unfold richCompare
  simp only [oneThing_ref]
  refine wpAny_holding (wpAny_bind (wpAny_cRoomFor hu ?_))
  refine wpAny_bind (I.type.here (wpAny_bind (hb.here ?_)))
  split
  · rename_i q
    have e : PySem.W.subIn K tb (.ref C) = some false := by
      rcases Bool.or_eq_true_iff.mp hn with e | e
      · rw [beq_iff_eq.mp e] at q; simp at q
      · exact beq_iff_eq.mp e
    refine wpAny_bind ((PySem.W.looks_subIn X e).here ?_)
    simp only [Bool.false_eq_true, if_false]
    refine wpAny_bind (wpAny_mono one (fun r s' z => ?_) fun _ _ e => e)
    obtain ⟨v, rfl, hq⟩ := z
    exact wpAny_pure hq
  · refine wpAny_bind (wpAny_pure ?_)
    simp only [Bool.false_eq_true, if_false]
    refine wpAny_bind (wpAny_mono one (fun r s' z => ?_) fun _ _ e => e)
    obtain ⟨v, rfl, hq⟩ := z
    exact wpAny_pure hq
open Builtin Builtin.Str in
theorem str_K {Q : Value → Shared → Prop} (hu : A.in1.in1.units < cLine) (X : K.In s.heap) (I : PySem.W.InstAt s.heap x ox C od) (hs : PySem.W.findIn K (.ref C) "__str__" = some (some (.ref f))) (hf : PySem.W.isFn K (.ref f) = true)
    (h : wpAny (model prog w) A.in1.in1 (call (.ref f) [.ref x]) (PySem.W.StrBack Q) E s) : wpAny (model prog w) A (call (.type "str") [.ref x]) Q E s := by
  refine callType_codes (T := "str") (Bi := Builtin.«object.__init__») (Q₁ := fun r s₁ => ∃ y u, r = .str y u ∧ Q r s₁) PySem.F.called_str (PySem.F.typeCall_str_1 _) PySem.F.entry_object_init ?_ ?_
  · refine codeAny_of_tree ?_
    show wpAny _ A.in1.in1 (do checkBuiltinCall "str.__new__" ⟨[.type "str", .ref x], []⟩; again (.builtin "str.__new__" ⟨[.type "str", .ref x], []⟩)) _ _ s
    refine wpAny_bind (wpAny_of_eq (PySem.F.newCall_str_1 _) (wpAny_pure ⟨plainId_quiet (by decide +kernel) _, codeAny_builtin PySem.F.entry_str_new ?_⟩))
    rw [Around.under_plainId (by decide +kernel) _]
    rw [str_new_tree]
    refine wpAny_bind (wpAny_pure ?_)
    refine wpAny_bind (wpAny_of_eq isSubtype_str_str ?_)
    have key : wpAny (model prog w) A.in1.in1 (PySem.Builtin.Str.strOf (.ref x)) (fun r s₁ => ∃ y u, r = .str y u ∧ Q r s₁) E s := by
      unfold PySem.Builtin.Str.strOf
      rw [show isExactStr (.ref x) = false from rfl]
      refine wpAny_bind (m := cRoomFor _ _) (wpAny_cRoomFor hu ?_)
      refine wpAny_bind (m := callSpecial? (.ref x) (Str.ofString "__str__")) (PySem.W.special_fn X I hs (beq_iff_eq.mp hf) (wpAny_mono h (fun r s' z => ?_) fun _ _ y => y))
      cases r <;> first | exact z.elim | exact wpAny_pure ⟨_, _, rfl, z⟩
    exact wpAny_bind (wpAny_mono key (fun r s₁ hr => wpAny_pure hr) fun _ _ y => y)
  · rintro obj s₁ ⟨y, u, rfl, hq⟩
    exact ⟨typeIs_str _ _ _, PySem.F.args_object_init_2 _ _, object_init_meets PySem.F.called_str.init.lookup PySem.F.called_str.made (by decide) prog w A.in1 _ s₁ ⟨typeIs_str _ _ _, rfl, hq⟩⟩
end
section
variable {X : Cx} {k : Nat} {C f : Addr} {fd : FuncData} {ps : List Str} {sp : Sp}
/-- what is asked of the two: the first an instance of C, the second of a type that is no subclass -/
def rOwn2 (K : PySem.W.Frag) (C : Addr) (sp : Sp) (g : Bool → Bool) : R2 := fun x y H Q => ∃ a dx fs t, x = .ref a ∧ H a = some (.ins C dx fs) ∧ TyX K H y t ∧ PySem.W.notFirst K C t = true ∧ sp [x, y] H (fun v H' => ∃ r, v = .bl r ∧ Q (.bl (g r)) H') E0
theorem run_in {A : Around} {pins : List (Addr × Obj)} {σ : L2.St} {H : Hp} {s : Shared} {Q : VK} {us : List Value} {vs : List V} (F : FnOk X.prog X.w X.K X.mg X.base CX0 k f fd ps sp) (hr : Room k A) (he : Env0 X.prog X.w X.K X.mg X.base A X.stack s H) (hb : Binds X.K fd ps [])
    (I : Inv X pins σ H s) (r : Vals vs us) (h : sp vs H Q E0) : wpAny (model X.prog X.w) A (call (.ref f) us) (EP X pins σ Q) X.xe s := by
  have hl : (us ++ []).length = ps.length := by rw [List.append_nil, ← r.length]; exact F.len _ _ _ _ h
  have hbb := hb s us I.kIn hl
  rw [List.append_nil] at hbb
  refine wpAny_call (codeAny_mono (F.run A X.stack s H ⟨us, []⟩ us vs Q E0 hr he hbb r h) fun r s' hq => ?_)
  cases r with
  | error e => exact hq.elim
  | ok fl =>
    cases fl with
    | ret u => exact I.after hq
    | next => exact False.elim hq
    | brk => exact False.elim hq
    | cont => exact False.elim hq
theorem op_eqOwn (F : FnOk X.prog X.w X.K X.mg X.base CX0 k f fd ps sp) (hr : Room (k + 1) X.A) (hb : Binds X.K fd ps []) (hs : PySem.W.findIn X.K (.ref C) "__eq__" = some (some (.ref f))) (hf : PySem.W.isFn X.K (.ref f) = true) :
    OpR X (compareOp .Eq) (rOwn2 X.K C sp id) := by
  intro pins s σ H x y v u Q I rx ry h
  obtain ⟨a, dx, fs, t, rfl, ha, ty, hn, hsp⟩ := h
  cases rx
  obtain ⟨P, Z, p, _⟩ := kit_of I ry ty
  obtain ⟨mA, J, _⟩ := ins_get I.hok ha
  obtain ⟨od, J, _⟩ := J.look
  obtain ⟨m, hF⟩ := I.fr
  show wpAny (model X.prog X.w) X.A (richCompare .Eq (.ref a) u) (EP X pins σ Q) X.xe s
  refine PySem.W.cmp_K (op := .Eq) (tb := t) hr.units0 hF I.ok.mod.kin J (Z.ty _ _ I.kIn p) hn hs hf ?_
  refine wpAny_mono (run_in F (hr.mono (Nat.le_succ k)) I.env0 hb I (vs := [.ref a, y]) (.cons rfl (.cons ry .nil)) hsp) (fun r s' z => ?_) fun _ _ e => e
  obtain ⟨z1, H', I', rz, b, rfl, q⟩ := z
  cases rz
  exact ⟨.bl b, H', I', rfl, q⟩
theorem op_neOwn (F : FnOk X.prog X.w X.K X.mg X.base CX0 k f fd ps sp) (hr : Room (k + 1) X.A) (hb : Binds X.K fd ps []) (hs : PySem.W.findIn X.K (.ref C) "__eq__" = some (some (.ref f))) (hf : PySem.W.isFn X.K (.ref f) = true)
    (hne : PySem.W.findIn X.K (.ref C) "__ne__" = some (some (.builtin "object.__ne__"))) (hm : PySem.W.mroIn X.K C (.type "object") = some true) :
    OpR X (compareOp .NotEq) (rOwn2 X.K C sp not) := by
  intro pins s σ H x y v u Q I rx ry h
  obtain ⟨a, dx, fs, t, rfl, ha, ty, hn, hsp⟩ := h
  cases rx
  obtain ⟨P, Z, p, _⟩ := kit_of I ry ty
  obtain ⟨mA, J, _⟩ := ins_get I.hok ha
  obtain ⟨od, J, _⟩ := J.look
  obtain ⟨m, hF⟩ := I.fr
  show wpAny (model X.prog X.w) X.A (richCompare .NotEq (.ref a) u) (EP X pins σ Q) X.xe s
  refine ne_K (tb := t) hr.units0 hr.in1.units0 hF I.ok.mod.kin J (Z.ty _ _ I.kIn p) hn hne hm hs hf ?_
  refine wpAny_mono (run_in (A := X.A.in1) F hr.in1 I.env0.in1 hb I (vs := [.ref a, y]) (.cons rfl (.cons ry .nil)) hsp) (fun r s' z => ?_) fun _ _ e => e
  obtain ⟨z1, H', I', rz, b, rfl, q⟩ := z
  cases rz
  exact ⟨b, rfl, .bl (!b), H', I', rfl, q⟩
/-- str of an instance -/
theorem call_strOwn (F : FnOk X.prog X.w X.K X.mg X.base CX0 k f fd ps sp) (hr : Room (k + 2) X.A) (hb : Binds X.K fd ps []) (hs : PySem.W.findIn X.K (.ref C) "__str__" = some (some (.ref f))) (hf : PySem.W.isFn X.K (.ref f) = true) :
    CallR X (.type "str") (fun xs H Q => ∃ a dx fs, xs = [.ref a] ∧ H a = some (.ins C dx fs) ∧ sp [.ref a] H (fun v H' => ∃ z, v = .str z ∧ Q v H') E0) := by
  intro pins s σ H xs us Q I r h
  obtain ⟨a, dx, fs, rfl, ha, hsp⟩ := h
  obtain ⟨u, rfl, ru⟩ := vals1 r
  cases ru
  obtain ⟨mA, J, _⟩ := ins_get I.hok ha
  obtain ⟨od, J, _⟩ := J.look
  refine str_K hr.in1.in1.units0 I.kIn J hs hf ?_
  refine wpAny_mono (run_in (A := X.A.in1.in1) F hr.in1.in1 I.env0.in1.in1 hb I (vs := [.ref a]) (.cons rfl .nil) hsp) (fun r s' z => ?_) fun _ _ e => e
  obtain ⟨z1, H', I', rz, y, rfl, q⟩ := z
  obtain ⟨t, rfl⟩ := rz
  exact ⟨.str y, H', I', ⟨t, rfl⟩, q⟩
/-- the same with the written part named -/
theorem op_eqOwnK {K : PySem.W.Frag} (hK : X.K = K) (F : FnOk X.prog X.w X.K X.mg X.base CX0 k f fd ps sp) (hr : Room (k + 1) X.A) (hb : Binds X.K fd ps []) (hs : PySem.W.findIn X.K (.ref C) "__eq__" = some (some (.ref f))) (hf : PySem.W.isFn X.K (.ref f) = true) :
    OpR X (compareOp .Eq) (rOwn2 K C sp id) := hK ▸ op_eqOwn F hr hb hs hf
end
end Fb

/-! Part A6: counting truths; orders. -/
namespace Fb
open PySem PySem.Spec PyProof.Rows L2
section
variable {X : Cx}
def isT : Value → Bool
  | .bool b => b
  | _ => false
/-- xs.count(True), xs a list of truths -/
def rCntB (K : PySem.W.Frag) : V → List V → Hp → VK → Prop := fun x xs H Q => ∃ (p : Addr) (bs : List Bool), x = .ref p ∧ xs = [.bl true] ∧ SqL K H p (bs.map V.bl) ∧ Q (.int (bs.count true : Nat)) H
theorem mt_countB : MtR X "list.count" (rCntB X.K) := by
  intro pins s σ H x xs v us Q I rx rxs h
  obtain ⟨p, bs, rfl, rfl, hs, q⟩ := h
  cases rx
  obtain ⟨u, rfl, ru⟩ := rxs.one
  cases ru
  obtain ⟨its, rv, ⟨⟨cls, dd, data, sl⟩, n, ho, hc, hdn, hd⟩, hlen⟩ := I.list hs
  simp only at hc hd
  subst hc hd
  have hb := rv.bls
  refine call_meets PySem.F.slot_list_count ⟨_, ho, rfl⟩ PySem.F.entry_list_count (PySem.F.args_list_count_2 _ _)
    (SeqAt.list_countAt p its.toArray n dd sl (.bool true) isT) ⟨ho, fun y hy => ?_, ?_⟩
  · have hy' : y ∈ its := by simpa using hy
    rw [hb] at hy'
    obtain ⟨b, _, rfl⟩ := List.mem_map.mp hy'
    have e := eqAt_V (A := X.A.in1) (s := s) (y := .bl b) (x := .bl true) (u := .bool b) (v := .bool true) rfl rfl rfl rfl
    have e2 : eqV (.bl b) (.bl true) = isT (.bool b) := by cases b <;> rfl
    rw [e2] at e
    exact e
  · have ec : its.toArray.toList.countP isT = bs.count true := by
      rw [hb]
      clear hb rv hs hlen hdn ho q
      induction bs with
      | nil => rfl
      | cons b r ih =>
        simp only [List.map_cons, List.countP_cons, List.count_cons] at ih ⊢
        cases b <;> simp_all [isT]
    refine ⟨.int (bs.count true : Nat), H, I.tok _, ⟨s.toks, ?_⟩, q⟩
    show Value.int ((its.toArray.toList.countP isT : Nat) : Int) s.toks = Value.int ((bs.count true : Nat) : Int) s.toks
    rw [ec]
end
theorem one_of_three (x y : Rat) : [decide (x < y), decide (x = y), decide (y < x)].count true = 1 := by
  by_cases h1 : x < y
  · have h2 : x ≠ y := Rat.ne_of_lt h1
    have h3 : ¬ y < x := Rat.not_lt.mpr (Rat.le_of_lt h1)
    simp [h1, h2, h3]
  · by_cases h2 : x = y
    · subst h2
      simp [h1]
    · have h3 : y < x := Rat.lt_of_le_of_ne (Rat.not_lt.mp h1) (fun e => h2 e.symm)
      simp [h1, h2, h3]
theorem lt_trans' {x y z : Rat} (h1 : x < y) (h2 : y < z) : x < z := by
  have h := Rat.le_trans (Rat.le_of_lt h1) (Rat.le_of_lt h2)
  refine Rat.lt_of_le_of_ne h fun e => ?_
  subst e
  exact Rat.not_le.mpr h1 (Rat.le_of_lt h2)
theorem bd0 : Bd 1 0 := ⟨by decide, by decide⟩
theorem bd1 : Bd 1 1 := ⟨by decide, by decide⟩
theorem rsum_rev : ∀ qs : List Rat, rsum qs.reverse = rsum qs
  | [] => rfl
  | q :: r => by
    rw [List.reverse_cons, rsum_append, rsum_rev r]
    show rsum r + (q + 0) = q + rsum r
    rw [Rat.add_zero, Rat.add_comm]
end Fb
namespace Fb
open PySem PySem.Spec PyProof.Rows L2
theorem cut_from {xs : List V} {k : Nat} (h : k ≤ xs.length) : cutV xs (some (k : Int)) none = xs.drop k := by
  unfold cutV
  rw [HT.sIx_nat, HT.sIx_none, Nat.min_eq_left h]
  exact List.take_of_length_le (by rw [List.length_drop]; exact Nat.le_refl _)
theorem cut_to {xs : List V} {k : Nat} (h : k ≤ xs.length) : cutV xs none (some (k : Int)) = xs.take k := by
  unfold cutV
  rw [HT.sIx_nat, HT.sIx_none, Nat.min_eq_left h]
  rfl
/-- a share with its bound -/
def Sh (C : Addr) (n : Nat) (G : Hp) (v : V) (q : Rat) : Prop := IsShare C G v q ∧ Bd n q
theorem Sh.mono {C : Addr} {n : Nat} {G G' : Hp} {v : V} {q : Rat} (h : Sh C n G v q) (s : Same G G') : Sh C n G' v q := ⟨h.1.mono s, h.2⟩
theorem AllAre.few {C : Addr} {n N : Nat} {G : Hp} {vs : List V} {qs : List Rat} (h : AllAre (Sh C n G) vs qs) (l : vs.length ≤ N) (s : n * N ≤ 8000) (m : N ≤ 999) (p : 0 < n) : Few n N qs :=
  ⟨fun q hq => by obtain ⟨y, hy⟩ := h.mem hq; exact hy.2, by rw [← h.1]; exact l, s, m, p⟩
theorem AllAre.shares {C : Addr} {n : Nat} {G H : Hp} {p : Addr} {vs : List V} {qs : List Rat} (h : AllAre (Sh C n G) vs qs) (s : Same G H) (e : H p = some (.lst vs)) : IsShares C H (.ref p) qs :=
  ⟨p, vs, rfl, e, h.imp fun _ _ r => r.1.mono s⟩
theorem bd_div {n : Nat} {t b : Int} (h : b ≠ 0) (ht : t.natAbs < 2 ^ n) (hb : b.natAbs < 2 ^ n) : Bd n (Rat.divInt t b) := .divInt h ht hb
end Fb

/-! Part A7: errors of the program's own: made in a constructor inside a try, asked for their class in the suite. -/
namespace Fb
open PySem PySem.Spec PyProof.Rows L2
section
variable {X : Cx} {CX : CXT} {k : Nat} {f C : Addr} {fd : FuncData} {ps : List Str} {sp : Sp} {dvs : List V} {ds : List Value} {E : L2.St → XK} {x : Str} {p pos : Pos} {e : Expr} {es : List Expr} {t : TA}
theorem run_makeS {pins : List (Addr × Obj)} {σ : L2.St} {H : Hp} {s : Shared} {Q : VK} {us : List Value} {vs : List V} (M : Mk X.K C f) (F : FnOk X.prog X.w X.K X.mg X.base CX k f fd ps sp) (hr : Room (k + 1) X.A) (hb : Binds X.K fd ps ds) (hd : Vals dvs ds)
    (hx : PassesAt CX X σ (E σ)) (I : Inv X pins σ H s) (r : Vals vs us)
    (h : ∀ x dx, H x = none → H dx = none → dx ≠ x → sp (.ref x :: (vs ++ dvs)) (upd (upd H dx (.own x)) x (.ins C dx [])) (fun v H2 => v = .non ∧ Q (.ref x) H2) (E σ)) :
    wpAny (model X.prog X.w) X.A (call (.ref C) us) (EP X pins σ Q) X.xe s := by
  have hq := h (s.heap.objs.size + 1) s.heap.objs.size (I.hok.fresh (Nat.le_succ _)) (I.hok.fresh (Nat.le_refl _)) (Nat.ne_of_lt (Nat.lt_succ_self _))
  have I2 := Inv.made (C := C) I
  have r2 : Vals (V.ref (s.heap.objs.size + 1) :: (vs ++ dvs)) (Value.ref (s.heap.objs.size + 1) :: (us ++ ds)) := .cons rfl (r.append hd)
  have hl : (Value.ref (s.heap.objs.size + 1) :: us ++ ds).length = ps.length := by
    have e := r2.length
    rw [F.len _ _ _ _ hq] at e
    exact e.symm
  refine wpAny_call (make_map (f := f) I.kIn M.makes M.init (beq_iff_eq.mp M.fn) (codeAny_mono (F.run _ X.stack _ _ ⟨Value.ref (s.heap.objs.size + 1) :: us, []⟩ (Value.ref (s.heap.objs.size + 1) :: (us ++ ds)) _ _ (E σ) (hr.make C us [])
    (I2.env0.make C us []) (hb _ (Value.ref (s.heap.objs.size + 1) :: us) I2.kIn hl) r2 hq) fun r s' hq' => ?_))
  cases r with
  | error e => exact hx pins _ _ e s' I2 hq'
  | ok fl =>
    cases fl with
    | ret u =>
      obtain ⟨v, H', I3, rv, ev, q3⟩ := I2.after hq'
      subst ev
      exact ⟨rv, ⟨V.ref (s.heap.objs.size + 1), H', I3, rfl, q3⟩⟩
    | next => exact False.elim hq'
    | brk => exact False.elim hq'
    | cont => exact False.elim hq'
def tMakeS (C : Addr) (sp : Sp) (dvs : List V) (E : L2.St → XK) (t : TA) : TE := fun σ H Q => t σ H fun vs H1 => ∀ x dx, H1 x = none → H1 dx = none → dx ≠ x →
  sp (.ref x :: (vs ++ dvs)) (upd (upd H1 dx (.own x)) x (.ins C dx [])) (fun v H2 => v = .non ∧ Q (.ref x) H2) (E σ)
theorem pe_makeS (M : Mk X.K C f) (F : FnOk X.prog X.w X.K X.mg X.base CX k f fd ps sp) (hr : Room (k + 1) X.A) (hg : Gl X x) (hm : X.mg x = some (.ref C)) (hb : Binds X.K fd ps ds) (hd : Vals dvs ds) (hx : ∀ σ, PassesAt CX X σ (E σ))
    (ha : PA X (e :: es) t) (hdb : (x == ("__debug__" : Str)) = false := by decide) (he : starEach (e :: es) X.env = (false, eval e X.env) :: starEach es X.env := by rfl) (hpl : (backTo pos (starEach es X.env)).any (·.1) = false := by rfl) :
    PE X (.Call (.Name x p) (e :: es) [] pos) (tMakeS C sp dvs E t) := by
  refine ⟨fun pins s σ H Q I h => ?_⟩
  refine wpAny_Call_Name_kw (ld_glob I hg hm ?_ hdb)
  refine PySem.W.callWith_K (h₀ := X.base) I.ok.mod.kin M.kp (thn (ha.run pos pins s σ H _ I h) fun us s1 ⟨vs, H1, I1, r, q⟩ => ⟨I1.kIn, ?_⟩) he hpl
  exact run_makeS M F hr hb hd (hx σ) I1 r q
end
section
variable {X : Cx} {a : Addr} {oe : Obj} {cls : Value} {d : Option Addr} {pn : List (Addr × Obj)}
/-- isinstance(e, c) and isinstance(e, (c, ..)), e the error that the suite holds, of a class of the program's own -/
def rIsErr (K : PySem.W.Frag) (cls : Value) (d : Option Addr) (a : Addr) : List V → Hp → VK → Prop := fun xs H Q => ∃ (D : Addr) (c : V) (u : Value) (b : Bool), cls = .ref D ∧ d = none ∧ ExcC K D ∧ xs = [.ref a, c] ∧ ClsV c u ∧ PySem.W.kitOne K (.ref D) u = some b ∧ Q (.bl b) H
theorem call_isErr (hz : Zc cls d oe) (hf : ∃ vs, oe.data = .fields vs) : CallR (X.suite a ((a, oe) :: pn)) (.builtin "isinstance") (rIsErr X.K cls d a) := by
  intro pins s σ H xs us Q I r h
  obtain ⟨D, c, u, b, rfl, rfl, C, rfl, k, e, q⟩ := h
  exact call_isE (X := X) C hz hf pins s σ H _ us Q I r ⟨c, u, b, rfl, fun w hw => k.eq hw, e, q⟩
def rIsErrT (K : PySem.W.Frag) (cls : Value) (d : Option Addr) (a : Addr) : List V → Hp → VK → Prop := fun xs H Q => ∃ (D tp : Addr) (cs : List V) (us : List Value) (b : Bool), cls = .ref D ∧ d = none ∧ ExcC K D ∧ xs = [.ref a, .ref tp] ∧ H tp = some (.tup cs) ∧ Paired ClsV cs us ∧ PySem.W.kitAny K (.ref D) us = some b ∧ Q (.bl b) H
theorem call_isErrT (hz : Zc cls d oe) (hf : ∃ vs, oe.data = .fields vs) : CallR (X.suite a ((a, oe) :: pn)) (.builtin "isinstance") (rIsErrT X.K cls d a) := by
  intro pins s σ H xs us Q I r h
  obtain ⟨D, tp, cs, ws, b, rfl, rfl, C, rfl, hT, k, e, q⟩ := h
  obtain ⟨u1, u2, rfl, r1, r2⟩ := vals2 r
  cases r1
  cases r2
  obtain ⟨hget, _⟩ := I.pin (a, oe) (List.mem_append.mpr (.inl List.mem_cons_self))
  obtain ⟨vs, hv⟩ := hf
  have J : PySem.W.InstAt s.heap a oe D none := by
    obtain ⟨oc, od, oda, osl⟩ := oe
    obtain ⟨h1, h2⟩ := hz
    dsimp only at h1 h2 hv
    subst h1 h2 hv
    exact ⟨hget, rfl, rfl, trivial⟩
  obtain ⟨_, its, rv, o, h1, h2, n, h3⟩ := (show ObjOk X.prog X.w H s.heap tp (.tup cs) from I.hok tp _ hT)
  have e3 := ClsV.all k rv
  subst e3
  obtain ⟨oc, od, dt, sl⟩ := o
  simp only at h2 h3
  subst h2 h3
  exact PySem.W.kia_tup (PySem.W.handS_kitx_exc C.hg C.hk C.hs C.hd C.ha C.hn C.ht C.hm) I.kIn J h1 e (fun z => nomatch z) fun tk => ⟨.bl b, H, I.kept (t' := tk) fun _ _ z => z, rfl, q⟩
end
end Fb

/-! Part A8: == and != of lists whose items have an own __eq__, with either answer; pairs that stand for fractions. -/
namespace Fb
open PySem PySem.Spec PySem.SeqAt
open AutoSeq1 (wpAny_loadPart')
open MeetsSeq MeetsSeq2 MeetsSeq3 SeqRoads2
section
variable {prog : Program} {w : World} {A : Around} {R : Result → Shared → Prop}
def ListB (prog : Program) (w : World) (A : Around) (E : Value → Shared → Prop) (l b : Addr) (N : Nat) (e : Nat → Bool) (I : Shared → Prop) : Prop :=
  ∀ s, I s → ∃ (items items2 : Array Value) (n n2 : Nat), s.heap.get? l = some { cls := .type "list", data := .seq items n } ∧ s.heap.get? b = some { cls := .type "list", data := .seq items2 n2 } ∧ items.size = N ∧ items2.size = N ∧
    ∀ i (h1 : i < items.size) (h2 : i < items2.size), wpAny (model prog w) A.in1 (eqBool items[i] items2[i]) (fun r s' => r = e i ∧ I s') E s

/-- at each turn the two lists are read anew: N items each, of the i-th two e tells whether they are equal -/
theorem eq_loopB_eq (l b : Addr) (N : Nat) (e : Nat → Bool) (I : Shared → Prop) (hl : ListB prog w A (fun e s' => R (.error e) s') l b N e I)
    (fin : ∀ s, I s → R (.ok (.ret (.bool (((List.range N).all e))))) s) (k : Nat) :
    ∀ i : Nat, N - i = k → i ≤ N → ((List.range N).take i).all e = true → ∀ s, I s →
      wpAny (model prog w) A.in1 (Builtin.«list.__eq__.loop» ⟨[.ref l, .ref b, rawInt i, rawInt 2], []⟩) (GQ.FinOf prog w A R) (fun e s' => R (.error e) s') s := by
  induction k with
  | zero =>
    intro i hk hi ht s h
    obtain ⟨items, items2, n, n2, hl1, hb1, hs1, hs2, _⟩ := hl _ h
    have hi' : i = N := by omega
    have hR : R (.ok (.ret (.bool ( true)))) s := by
      have := fin s h
      rw [hi', List.take_of_length_le (by simp)] at ht
      rwa [ht] at this
    obtain ⟨hp, g, d, tk, os⟩ := s
    wp_walk using wpAny_loadPart' hl1, wpAny_loadPart' hb1
    have hi1 : items[((i : Nat) : Int).toNat]? = none := by simp; omega
    have hi2 : items2[((i : Nat) : Int).toNat]? = none := by simp; omega
    rw [hi1, hi2]
    wp_walk using wpAny_loadPart' hl1, wpAny_loadPart' hb1
    show R (.ok (.ret (.bool (items.size == items2.size)))) _
    rw [hs1, hs2]
    simpa using hR
  | succ k ih =>
    intro i hk hi ht s h
    obtain ⟨items, items2, n, n2, hl1, hb1, hs1, hs2, turn⟩ := hl _ h
    have hlt : i < items.size := by omega
    have hlt2 : i < items2.size := by omega
    have htn := turn i hlt hlt2
    obtain ⟨hp, g, d, tk, os⟩ := s
    wp_walk using wpAny_loadPart' hl1, wpAny_loadPart' hb1
    have hi1 : items[((i : Nat) : Int).toNat]? = some items[i] := by simp [hlt]
    have hi2 : items2[((i : Nat) : Int).toNat]? = some items2[i] := by simp [hlt2]
    have hc : ((i : Int) + 1) = ((i + 1 : Nat) : Int) := by omega
    rw [hi1, hi2]
    refine wpAny_bind (wpAny_mono htn (fun r s2 h2 => ?_) fun _ _ x => x)
    obtain ⟨hr, h2⟩ := h2
    have hd : (List.range N).drop i = i :: (List.range N).drop (i + 1) := by
      rw [List.drop_eq_getElem_cons (by simp; omega)]
      simp
    cases hb' : e i with
    | true =>
      rw [hb'] at hr
      subst hr
      have ht2 : ((List.range N).take (i + 1)).all e = true := by
        rw [List.take_add_one, List.all_append, ht]
        simp [show i < N by omega, hb']
      have hrec := ih (i + 1) (by omega) (by omega) ht2 s2 h2
      obtain ⟨hp2, g2, d2, tk2, os2⟩ := s2
      wp_walk
      rw [hc]
      exact ⟨plainId_quiet plain_eq_loop _, codeAny_builtin entry_eq_loop (by
        rw [Around.under_plainId plain_eq_loop _]
        exact hrec)⟩
    | false =>
      rw [hb'] at hr
      subst hr
      have hR := fin s2 h2
      have hall : (List.range N).all e = false := by
        rw [← List.take_append_drop i (List.range N), List.all_append, ht, hd, List.all_cons, hb']
        rfl
      rw [hall] at hR
      obtain ⟨items', items2', n', n2', hl2, hb2, hs1', hs2', _⟩ := hl _ h2
      obtain ⟨hp2, g2, d2, tk2, os2⟩ := s2
      have hi1' : items'[((i : Nat) : Int).toNat]? = some (items'[i]'(by omega)) := by simp [show i < items'.size by omega]
      have hi2' : items2'[((i : Nat) : Int).toNat]? = some (items2'[i]'(by omega)) := by simp [show i < items2'.size by omega]
      wp_walk using wpAny_loadPart' hl2, wpAny_loadPart' hb2
      rw [hi1', hi2']
      wp_walk
      simpa using hR
theorem list_eqB_eq (l b : Addr) (N : Nat) (e : Nat → Bool) (I : Shared → Prop) (hl : ListB prog w A (fun e s' => R (.error e) s') l b N e I)
    (fin : ∀ s, I s → R (.ok (.ret (.bool (((List.range N).all e))))) s) {s : Shared} (h : I s) :
    wpAny (model prog w) A.in1 (Builtin.«list.__eq__» ⟨[.ref l, .ref b], []⟩) (GQ.FinOf prog w A R) (fun e s' => R (.error e) s') s := by
  obtain ⟨items, items2, n, n2, hl1, hb1, hs1, hs2, _⟩ := hl _ h
  have hrec := eq_loopB_eq (A := A) (R := R) l b N e I hl fin _ 0 rfl (Nat.zero_le _) rfl s h
  obtain ⟨hp, g, d, tk, os⟩ := s
  have f3 := AutoSeq1.sub_list_list
  have hne : ¬ (items.size != items2.size) = true := by simp [hs1, hs2]
  wp_walk using wpAny_loadPart' hl1, wpAny_loadPart' hb1
  exact ⟨plainId_quiet plain_eq_loop _, codeAny_builtin entry_eq_loop (by
    rw [Around.under_plainId plain_eq_loop _]
    exact hrec)⟩
theorem rc_listB_eq {E : Value → Shared → Prop} {s : Shared} {l b : Addr} {N : Nat} {Q : Value → Shared → Prop} (hu : A.units < cLine) (e : Nat → Bool) (I : Shared → Prop) (hl : ListB prog w A E l b N e I)
    (fin : ∀ s, I s → Q (.bool (((List.range N).all e))) s) (h : I s) : wpAny (model prog w) A (richCompare .Eq (.ref l) (.ref b)) Q E s := by
  obtain ⟨items, items2, n, n2, hl1, hb1, _, _, _⟩ := hl _ h
  refine wpAny_richCompare_same_room (op := .Eq) ⟨_, hl1, rfl⟩ ⟨_, hb1, rfl⟩ F.slot_list_eq (GQ.call_here F.slot_list_eq ⟨_, hl1, rfl⟩ F.entry_list_eq (F.args_list_eq_2 _ _) ?_) hu
  exact list_eqB_eq (R := wants (fun v s' => v ≠ .notImplemented ∧ Q v s') E) l b N e I hl (fun s' q => ⟨(fun x => nomatch x), fin s' q⟩) h

/-- at each turn the two lists are read anew: N items each, of the i-th two e tells whether they are equal -/
theorem eq_loopB_ne (l b : Addr) (N : Nat) (e : Nat → Bool) (I : Shared → Prop) (hl : ListB prog w A (fun e s' => R (.error e) s') l b N e I)
    (fin : ∀ s, I s → R (.ok (.ret (.bool (!((List.range N).all e))))) s) (k : Nat) :
    ∀ i : Nat, N - i = k → i ≤ N → ((List.range N).take i).all e = true → ∀ s, I s →
      wpAny (model prog w) A.in1 (Builtin.«list.__eq__.loop» ⟨[.ref l, .ref b, rawInt i, rawInt 3], []⟩) (GQ.FinOf prog w A R) (fun e s' => R (.error e) s') s := by
  induction k with
  | zero =>
    intro i hk hi ht s h
    obtain ⟨items, items2, n, n2, hl1, hb1, hs1, hs2, _⟩ := hl _ h
    have hi' : i = N := by omega
    have hR : R (.ok (.ret (.bool (! true)))) s := by
      have := fin s h
      rw [hi', List.take_of_length_le (by simp)] at ht
      rwa [ht] at this
    obtain ⟨hp, g, d, tk, os⟩ := s
    wp_walk using wpAny_loadPart' hl1, wpAny_loadPart' hb1
    have hi1 : items[((i : Nat) : Int).toNat]? = none := by simp; omega
    have hi2 : items2[((i : Nat) : Int).toNat]? = none := by simp; omega
    rw [hi1, hi2]
    wp_walk using wpAny_loadPart' hl1, wpAny_loadPart' hb1
    show R (.ok (.ret (.bool (items.size != items2.size)))) _
    rw [hs1, hs2]
    simpa using hR
  | succ k ih =>
    intro i hk hi ht s h
    obtain ⟨items, items2, n, n2, hl1, hb1, hs1, hs2, turn⟩ := hl _ h
    have hlt : i < items.size := by omega
    have hlt2 : i < items2.size := by omega
    have htn := turn i hlt hlt2
    obtain ⟨hp, g, d, tk, os⟩ := s
    wp_walk using wpAny_loadPart' hl1, wpAny_loadPart' hb1
    have hi1 : items[((i : Nat) : Int).toNat]? = some items[i] := by simp [hlt]
    have hi2 : items2[((i : Nat) : Int).toNat]? = some items2[i] := by simp [hlt2]
    have hc : ((i : Int) + 1) = ((i + 1 : Nat) : Int) := by omega
    rw [hi1, hi2]
    refine wpAny_bind (wpAny_mono htn (fun r s2 h2 => ?_) fun _ _ x => x)
    obtain ⟨hr, h2⟩ := h2
    have hd : (List.range N).drop i = i :: (List.range N).drop (i + 1) := by
      rw [List.drop_eq_getElem_cons (by simp; omega)]
      simp
    cases hb' : e i with
    | true =>
      rw [hb'] at hr
      subst hr
      have ht2 : ((List.range N).take (i + 1)).all e = true := by
        rw [List.take_add_one, List.all_append, ht]
        simp [show i < N by omega, hb']
      have hrec := ih (i + 1) (by omega) (by omega) ht2 s2 h2
      obtain ⟨hp2, g2, d2, tk2, os2⟩ := s2
      wp_walk
      rw [hc]
      exact ⟨plainId_quiet plain_eq_loop _, codeAny_builtin entry_eq_loop (by
        rw [Around.under_plainId plain_eq_loop _]
        exact hrec)⟩
    | false =>
      rw [hb'] at hr
      subst hr
      have hR := fin s2 h2
      have hall : (List.range N).all e = false := by
        rw [← List.take_append_drop i (List.range N), List.all_append, ht, hd, List.all_cons, hb']
        rfl
      rw [hall] at hR
      obtain ⟨items', items2', n', n2', hl2, hb2, hs1', hs2', _⟩ := hl _ h2
      obtain ⟨hp2, g2, d2, tk2, os2⟩ := s2
      have hi1' : items'[((i : Nat) : Int).toNat]? = some (items'[i]'(by omega)) := by simp [show i < items'.size by omega]
      have hi2' : items2'[((i : Nat) : Int).toNat]? = some (items2'[i]'(by omega)) := by simp [show i < items2'.size by omega]
      wp_walk using wpAny_loadPart' hl2, wpAny_loadPart' hb2
      rw [hi1', hi2']
      wp_walk
      simpa using hR
theorem list_eqB_ne (l b : Addr) (N : Nat) (e : Nat → Bool) (I : Shared → Prop) (hl : ListB prog w A (fun e s' => R (.error e) s') l b N e I)
    (fin : ∀ s, I s → R (.ok (.ret (.bool (!((List.range N).all e))))) s) {s : Shared} (h : I s) :
    wpAny (model prog w) A.in1 (Builtin.«list.__ne__» ⟨[.ref l, .ref b], []⟩) (GQ.FinOf prog w A R) (fun e s' => R (.error e) s') s := by
  obtain ⟨items, items2, n, n2, hl1, hb1, hs1, hs2, _⟩ := hl _ h
  have hrec := eq_loopB_ne (A := A) (R := R) l b N e I hl fin _ 0 rfl (Nat.zero_le _) rfl s h
  obtain ⟨hp, g, d, tk, os⟩ := s
  have f3 := AutoSeq1.sub_list_list
  have hne : ¬ (items.size != items2.size) = true := by simp [hs1, hs2]
  wp_walk using wpAny_loadPart' hl1, wpAny_loadPart' hb1
  exact ⟨plainId_quiet plain_eq_loop _, codeAny_builtin entry_eq_loop (by
    rw [Around.under_plainId plain_eq_loop _]
    exact hrec)⟩
theorem rc_listB_ne {E : Value → Shared → Prop} {s : Shared} {l b : Addr} {N : Nat} {Q : Value → Shared → Prop} (hu : A.units < cLine) (e : Nat → Bool) (I : Shared → Prop) (hl : ListB prog w A E l b N e I)
    (fin : ∀ s, I s → Q (.bool (!((List.range N).all e))) s) (h : I s) : wpAny (model prog w) A (richCompare .NotEq (.ref l) (.ref b)) Q E s := by
  obtain ⟨items, items2, n, n2, hl1, hb1, _, _, _⟩ := hl _ h
  refine wpAny_richCompare_same_room (op := .NotEq) ⟨_, hl1, rfl⟩ ⟨_, hb1, rfl⟩ F.slot_list_ne (GQ.call_here F.slot_list_ne ⟨_, hl1, rfl⟩ F.entry_list_ne (F.args_list_ne_2 _ _) ?_) hu
  exact list_eqB_ne (R := wants (fun v s' => v ≠ .notImplemented ∧ Q v s') E) l b N e I hl (fun s' q => ⟨(fun x => nomatch x), fin s' q⟩) h
end
end Fb

namespace Fb
open PySem PySem.Spec PyProof.Rows L2
/-- what == of two values tells, by the abstract heap -/
abbrev EqvB := V → V → Bool → Hp → Prop
/-- == tells what D says, and nothing else changes -/
def EqB (X : Cx) (n : Nat) (D : EqvB) : Prop :=
  ∀ (A : Around) (pins : List (Addr × Obj)) (s : Shared) (σ : L2.St) (H : Hp) (x y : V) (u v : Value) (b : Bool), Sub X n A → Inv X pins σ H s → RelV x u → RelV y v → D x y b H →
    wpAny (model X.prog X.w) A (eqBool u v) (fun r s' => r = b ∧ Inv X pins σ H s') X.xe s
def RcB (X : Cx) (n : Nat) (op : CmpOp) (g : Bool → Bool) (D : EqvB) : Prop :=
  ∀ (A : Around) (pins : List (Addr × Obj)) (s : Shared) (σ : L2.St) (H : Hp) (x y : V) (u v : Value) (b : Bool), Sub X n A → Inv X pins σ H s → RelV x u → RelV y v → D x y b H →
    wpAny (model X.prog X.w) A (richCompare op u v) (fun r s' => r = .bool (g b) ∧ Inv X pins σ H s') X.xe s
def Refl (D : EqvB) : Prop := ∀ x b H, D x x b H → b = true
section
variable {X : Cx} {n : Nat} {D : EqvB}
theorem RcB.eqB (h : RcB X n .Eq id D) (hr : ∀ x y b H, D x y b H → ∃ a c, x = .ref a ∧ y = .ref c) (hf : Refl D) : EqB X n D := by
  intro A pins s σ H x y u v b sb I rx ry d
  obtain ⟨a, c, rfl, rfl⟩ := hr _ _ _ _ d
  cases rx
  cases ry
  by_cases hab : a = c
  · subst hab
    rw [hf _ _ _ d]
    exact SeqAt.EqAt.same (A := A) (s := s) (.ref a) X.prog X.w X.xe _ ⟨rfl, I⟩
  · refine GQ.eqBool_refG hab (wpAny_mono (h A pins s σ H (.ref a) (.ref c) _ _ b sb I rfl rfl d) (fun r s' q => ?_) fun _ _ x => x)
    obtain ⟨hr', q⟩ := q
    exact ⟨b, hr', rfl, q⟩
/-- instances of the class at C with the text's own ==, whose promise sp tells b and changes nothing -/
def DInsB (C : Addr) (sp : Sp) : EqvB := fun x y b H => ∃ a c dx dy fs gs, x = .ref a ∧ y = .ref c ∧ H a = some (.ins C dx fs) ∧ H c = some (.ins C dy gs) ∧ sp [x, y] H (fun v H' => v = .bl b ∧ H' = H) E0
theorem rcB_ins {C f : Addr} {fd : FuncData} {ps : List Str} {sp : Sp} (F : FnOk X.prog X.w X.K X.mg X.base CX0 n f fd ps sp)
    (hs : PySem.W.findIn X.K (.ref C) "__eq__" = some (some (.ref f))) (hf : PySem.W.isFn X.K (.ref f) = true) (hb : Binds X.K fd ps []) : RcB X n .Eq id (DInsB C sp) := by
  intro A pins s σ H x y u v b sb I rx ry d
  obtain ⟨a, c, dx, dy, fs, gs, rfl, rfl, ha, hc, hsp⟩ := d
  cases rx
  cases ry
  obtain ⟨mA, J, _⟩ := ins_get I.hok ha
  obtain ⟨mB, J', _⟩ := ins_get I.hok hc
  obtain ⟨od, J, _⟩ := J.look
  obtain ⟨od', J', _⟩ := J'.look
  obtain ⟨m, hF⟩ := I.fr
  refine PySem.W.cmp_K (op := .Eq) (tb := .ref C) sb.room.units0 hF I.ok.mod.kin J J'.type (by simp [PySem.W.notFirst]) hs hf ?_
  have e0 : Env0 X.prog X.w X.K X.mg X.base A X.stack s H := by
    have e := I.env0
    exact ⟨by rw [sb.fr]; exact e.frames, e.mod, e.bs, e.bsz, e.funs, e.frf, e.hok, e.bare⟩
  refine wpAny_mono (run_in F sb.room e0 hb I (vs := [.ref a, .ref c]) (.cons rfl (.cons rfl .nil)) hsp) (fun r s' z => ?_) fun _ _ e => e
  obtain ⟨z1, H', I', rz, rfl, rfl⟩ := z
  cases rz
  exact ⟨rfl, I'⟩
def DListB (D : EqvB) : EqvB := fun x y b H => ∃ a c xs ys, x = .ref a ∧ y = .ref c ∧ H a = some (.lst xs) ∧ H c = some (.lst ys) ∧ xs.length = ys.length ∧
  ∃ e : Nat → Bool, (∀ (i : Nat) x y, xs[i]? = some x → ys[i]? = some y → D x y (e i) H) ∧ b = (List.range xs.length).all e
theorem refl_list (h : Refl D) : Refl (DListB D) := by
  intro x b H d
  obtain ⟨a, c, xs, ys, rfl, e, ha, hc, _, f, hf, rfl⟩ := d
  cases e
  rw [ha] at hc
  cases hc
  rw [List.all_eq_true]
  intro i hi
  have hi : i < xs.length := by simpa using hi
  exact h _ _ _ (hf i xs[i] xs[i] (List.getElem?_eq_getElem hi) (List.getElem?_eq_getElem hi))
theorem turnB (h : EqB X n D) {A : Around} (sb : Sub X (n + 1) A) {pins : List (Addr × Obj)} {σ : L2.St} {H : Hp} {xs ys : List V} {its its2 : List Value} {e : Nat → Bool} (p : ∀ (i : Nat) x y, xs[i]? = some x → ys[i]? = some y → D x y (e i) H) (r : Vals xs its) (r2 : Vals ys its2)
    (i : Nat) (h1 : i < its.toArray.size) (h2 : i < its2.toArray.size) (s' : Shared) (l : Inv X pins σ H s') :
    wpAny (model X.prog X.w) A.in1 (eqBool its.toArray[i] its2.toArray[i]) (fun r s2 => r = e i ∧ Inv X pins σ H s2) X.xe s' := by
  have g1 : its[i]? = some its.toArray[i] := by
    have h1' : i < its.length := by simpa using h1
    rw [List.getElem?_eq_getElem h1'] <;> simp
  have g2 : its2[i]? = some its2.toArray[i] := by
    have h2' : i < its2.length := by simpa using h2
    rw [List.getElem?_eq_getElem h2'] <;> simp
  have k1 : i < xs.length := by rw [r.length]; simpa using h1
  have k2 : i < ys.length := by rw [r2.length]; simpa using h2
  obtain ⟨u, hu, ru⟩ := r.get (List.getElem?_eq_getElem k1)
  obtain ⟨v, hv, rv⟩ := r2.get (List.getElem?_eq_getElem k2)
  rw [g1] at hu
  rw [g2] at hv
  rw [Option.some.inj hu, Option.some.inj hv]
  exact h A.in1 pins s' σ H _ _ u v _ sb.in1 l ru rv (p i _ _ (List.getElem?_eq_getElem k1) (List.getElem?_eq_getElem k2))
theorem rcB_list (h : EqB X n D) : RcB X (n + 1) .Eq id (DListB D) := by
  intro A pins s σ H x y u v b sb I rx ry d
  obtain ⟨a, c, xs, ys, rfl, rfl, ha, hc, hl, e, p, rfl⟩ := d
  cases rx
  cases ry
  refine rc_listB_eq (N := xs.length) sb.room.units0 e (fun s' => Inv X pins σ H s') (fun s' q => ?_) (fun s' q => ⟨rfl, q⟩) I
  obtain ⟨z, its, k, r, ea⟩ := q.hok a _ ha
  obtain ⟨z2, its2, k2, r2, ec⟩ := q.hok c _ hc
  exact ⟨its.toArray, its2.toArray, k, k2, ea, ec, by rw [List.size_toArray, ← r.length], by rw [List.size_toArray, ← r2.length, hl], fun i h1 h2 => turnB h sb p r r2 i h1 h2 s' q⟩
theorem rcB_listN (h : EqB X n D) : RcB X (n + 1) .NotEq not (DListB D) := by
  intro A pins s σ H x y u v b sb I rx ry d
  obtain ⟨a, c, xs, ys, rfl, rfl, ha, hc, hl, e, p, rfl⟩ := d
  cases rx
  cases ry
  refine rc_listB_ne (N := xs.length) sb.room.units0 e (fun s' => Inv X pins σ H s') (fun s' q => ?_) (fun s' q => ⟨rfl, q⟩) I
  obtain ⟨z, its, k, r, ea⟩ := q.hok a _ ha
  obtain ⟨z2, its2, k2, r2, ec⟩ := q.hok c _ hc
  exact ⟨its.toArray, its2.toArray, k, k2, ea, ec, by rw [List.size_toArray, ← r.length], by rw [List.size_toArray, ← r2.length, hl], fun i h1 h2 => turnB h sb p r r2 i h1 h2 s' q⟩
theorem eqB_list (h : EqB X n D) (hf : Refl D) : EqB X (n + 1) (DListB D) := (rcB_list h).eqB (fun _ _ _ _ d => let ⟨a, c, _, _, hx, hy, _⟩ := d; ⟨a, c, hx, hy⟩) (refl_list hf)
/-- x == y, x != y as expressions -/
def rEqB (g : Bool → Bool) (D : EqvB) : R2 := fun x y H Q => ∃ b, D x y b H ∧ Q (.bl (g b)) H
theorem op_eqB (h : RcB X n .Eq id D) (hr : Room n X.A) : OpR X (compareOp .Eq) (rEqB id D) := by
  intro pins s σ H x y v u Q I rx ry hq
  obtain ⟨b, d, q⟩ := hq
  show wpAny (model X.prog X.w) X.A (richCompare .Eq v u) (EP X pins σ Q) X.xe s
  refine wpAny_mono (h X.A pins s σ H x y v u b ⟨hr, rfl⟩ I rx ry d) (fun r s' z => ?_) fun _ _ x => x
  obtain ⟨rfl, I'⟩ := z
  exact ⟨.bl b, H, I', rfl, q⟩
theorem op_neB (h : RcB X n .NotEq not D) (hr : Room n X.A) : OpR X (compareOp .NotEq) (rEqB not D) := by
  intro pins s σ H x y v u Q I rx ry hq
  obtain ⟨b, d, q⟩ := hq
  show wpAny (model X.prog X.w) X.A (richCompare .NotEq v u) (EP X pins σ Q) X.xe s
  refine wpAny_mono (h X.A pins s σ H x y v u b ⟨hr, rfl⟩ I rx ry d) (fun r s' z => ?_) fun _ _ x => x
  obtain ⟨rfl, I'⟩ := z
  exact ⟨.bl (!b), H, I', rfl, q⟩
end
/-! ### tuples, != with equal items -/
section
open PySem.SeqAt MeetsSeq MeetsSeq2 MeetsSeq3 SeqRoads2
open AutoSeq1 (wpAny_loadPart')
variable {prog : Program} {w : World} {A : Around} {R : Result → Shared → Prop}
theorem tuple_neG (l b : Addr) (items items2 : Array Value) (n n2 : Nat) (dd dd2 : Option Addr) (sl sl2 : Array (Option Value)) (hsz : items.size = items2.size) (I : Shared → Prop)
    (turn : ∀ i (h1 : i < items.size) (h2 : i < items2.size) s, I s → wpAny (model prog w) A.in1 (eqBool items[i] items2[i]) (fun r s' => r = true ∧ I s') (fun e s' => R (.error e) s') s)
    (fin : ∀ s, I s → R (.ok (.ret (.bool false))) s) {s : Shared} (hl1 : s.heap.get? l = some { cls := .type "tuple", dict := dd, data := .seq items n, slots := sl }) (hb1 : s.heap.get? b = some { cls := .type "tuple", dict := dd2, data := .seq items2 n2, slots := sl2 }) (h : I s) :
    wpAny (model prog w) A.in1 (Builtin.«tuple.__ne__» ⟨[.ref l, .ref b], []⟩) (GQ.FinOf prog w A R) (fun e s' => R (.error e) s') s := by
  have f2 := AutoSeq1.sub_tuple_tuple
  have hZ : (items.toList.zip items2.toList).length = items.size := by simp [hsz]
  have h0 := h
  obtain ⟨hp, g, d, tk, os⟩ := s
  wp_walk using wpAny_loadPart' hl1, wpAny_loadPart' hb1, wpAny_forIn_list _ (fun rest b s' => b.1 = none ∧ ∃ i, rest = (items.toList.zip items2.toList).drop i ∧ i ≤ items.size ∧ I s') _
  case turn =>
    rintro ⟨y, x⟩ rest b s' ⟨hb', i, hz, hi, hI⟩
    have hlt : i < (items.toList.zip items2.toList).length := by
      rcases Nat.lt_or_ge i (items.toList.zip items2.toList).length with h' | h'
      · exact h'
      · rw [List.drop_of_length_le h'] at hz; cases hz
    have h1 : i < items.size := hZ ▸ hlt
    have h2 : i < items2.size := hsz ▸ h1
    rw [List.drop_eq_getElem_cons hlt] at hz
    injection hz with hyx hrest
    have hy : y = items[i] := by have := congrArg Prod.fst hyx; simpa using this
    have hx : x = items2[i] := by have := congrArg Prod.snd hyx; simpa using this
    subst hy hx
    refine wpAny_bind (wpAny_mono (turn i h1 h2 s' hI) (fun r s2 q2 => ?_) fun _ _ x => x)
    obtain ⟨hr, q2⟩ := q2
    subst hr
    wp_walk
    exact ⟨rfl, i + 1, hrest, h1, q2⟩
  case fin =>
    rintro ⟨b1, b2⟩ s' ⟨hb', i, hz, hi, hI⟩
    simp only at hb'
    subst hb'
    have hR : R (.ok (.ret (.bool false))) s' := fin s' hI
    wp_walk
    simpa [Builtin.Tuple.tupleCompareSizes, hsz] using hR
  case h =>
    exact ⟨rfl, 0, rfl, Nat.zero_le _, h0⟩
theorem rc_tupN {E : Value → Shared → Prop} {s : Shared} {l b : Addr} {items items2 : Array Value} {Q : Value → Shared → Prop} (hsz : items.size = items2.size) (hu : A.units < cLine) (I : Shared → Prop)
    (hl : s.heap.IsTuple l items) (hb : s.heap.IsTuple b items2)
    (turn : ∀ i (h1 : i < items.size) (h2 : i < items2.size) s, I s → wpAny (model prog w) A.in1 (eqBool items[i] items2[i]) (fun r s' => r = true ∧ I s') E s)
    (fin : ∀ s, I s → Q (.bool false) s) (h : I s) : wpAny (model prog w) A (richCompare .NotEq (.ref l) (.ref b)) Q E s := by
  obtain ⟨⟨cls, dd, data, sl⟩, ho, hc, n, hd⟩ := id hl
  obtain ⟨⟨cls2, dd2, data2, sl2⟩, ho2, hc2, n2, hd2⟩ := id hb
  simp only at hc hd hc2 hd2
  subst hc hd hc2 hd2
  refine wpAny_richCompare_same_room (op := .NotEq) ⟨_, ho, rfl⟩ ⟨_, ho2, rfl⟩ F.slot_tuple_ne (GQ.call_here F.slot_tuple_ne ⟨_, ho, rfl⟩ F.entry_tuple_ne (F.args_tuple_ne_2 _ _) ?_) hu
  exact tuple_neG (R := wants (fun v s' => v ≠ .notImplemented ∧ Q v s') E) l b items items2 n n2 dd dd2 sl sl2 hsz I turn (fun s' q => ⟨(fun x => nomatch x), fin s' q⟩) ho ho2 h
end
section
variable {X : Cx} {n : Nat} {D : EqvB}
/-- two tuples of as many items, each two equal -/
def DTupT (K : PySem.W.Frag) (D : EqvB) : EqvB := fun x y b H => ∃ a c xs ys, x = .ref a ∧ y = .ref c ∧ SqT K H a xs ∧ SqT K H c ys ∧ xs.length = ys.length ∧ (∀ (i : Nat) x y, xs[i]? = some x → ys[i]? = some y → D x y true H) ∧ b = true
theorem rcB_tupN (h : EqB X n D) : RcB X (n + 1) .NotEq not (DTupT X.K D) := by
  intro A pins s σ H x y u v b sb I rx ry d
  obtain ⟨a, c, xs, ys, rfl, rfl, ha, hc, hl, p, rfl⟩ := d
  cases rx
  cases ry
  obtain ⟨its, r, e, z⟩ := I.tuple ha
  obtain ⟨its2, r2, e2, z2⟩ := I.tuple hc
  have hsz : its.toArray.size = its2.toArray.size := by rw [List.size_toArray, List.size_toArray, ← r.length, ← r2.length]; exact hl
  exact rc_tupN hsz sb.room.units0 (fun s' => Inv X pins σ H s') e e2 (fun i h1 h2 s' q => turnB (e := fun _ => true) h sb p r r2 i h1 h2 s' q) (fun s' q => ⟨rfl, q⟩) I
end
end Fb

namespace Fb
open PySem PySem.Spec PyProof.Rows L2
/-- a suite's if without else, both ways told by one condition -/
theorem ite_mid {c A : Prop} [Decidable c] {Rest : L2.St → Hp → Prop} {σ : L2.St} {H : Hp} (M : L2.St → Hp → Prop) (h1 : c → (∀ σ H, M σ H → Rest σ H) → A) (h2 : ¬ c → M σ H) (h3 : ∀ σ H, M σ H → Rest σ H) : if c then A else Rest σ H := by
  by_cases h : c
  · rw [if_pos h]
    exact h1 h h3
  · rw [if_neg h]
    exact h3 _ _ (h2 h)
theorem cr_sumK {X : Cx} {K : PySem.W.Frag} (hK : X.K = K) (hc : X.calm = true) : CallR X (.builtin "sum") (rSum K) := hK ▸ cr_sum hc
theorem none_back {H H' : Hp} {a p : Addr} {f : Nat} (s : Same (hid a H) (hid a H')) (w : WellAt H' a f) (h : H' p = none) : H p = none := by
  have hp : p ≠ a := w.ne h
  cases e : H p with
  | none => rfl
  | some o =>
    have := s p o (by rw [hid_ne hp]; exact e)
    rw [hid_ne hp, h] at this
    cases this
/-- a list of weights of the law's own, beside the well -/
structure WtAt (H : Hp) (a : Addr) (m : Nat) (B : Int) (f : Nat) (pw : Addr) (ns : List Int) (H' : Hp) : Prop where
  new : H pw = none
  ne : pw ≠ a
  at_ : H' pw = some (.lst (ns.map V.int))
  len : ns.length = m
  bd : ∀ x ∈ ns, 0 ≤ x ∧ x ≤ B
  same : Same (hid a H) (hid pw (hid a H'))
  well : WellAt H' a f
theorem WtAt.step {H : Hp} {a : Addr} {m : Nat} {B : Int} {f f' : Nat} {pw : Addr} {ns : List Int} {H1 H2 : Hp} (h : WtAt H a m B f pw ns H1) (s : Same (hid a H1) (hid a H2)) (w : WellAt H2 a f') : WtAt H a m B f' pw ns H2 := by
  refine ⟨h.new, h.ne, ?_, h.len, h.bd, h.same.trans (hid_mono s), w⟩
  have := s pw _ (by rw [hid_ne h.ne]; exact h.at_)
  rwa [hid_ne h.ne] at this
theorem WtAt.upB {H : Hp} {a : Addr} {m : Nat} {B B' : Int} {f : Nat} {pw : Addr} {ns : List Int} {H1 : Hp} (h : WtAt H a m B f pw ns H1) (l : B ≤ B') : WtAt H a m B' f pw ns H1 :=
  ⟨h.new, h.ne, h.at_, h.len, fun x hx => ⟨(h.bd x hx).1, Int.le_trans (h.bd x hx).2 l⟩, h.same, h.well⟩
theorem WtAt.set {H : Hp} {a : Addr} {m : Nat} {B : Int} {f : Nat} {pw : Addr} {ns : List Int} {H1 : Hp} (h : WtAt H a m B f pw ns H1) (j : Nat) {v : Int} (v0 : 0 ≤ v) (v1 : v ≤ B) : WtAt H a m B f pw (ns.set j v) (upd H1 pw (.lst ((ns.map V.int).set j (.int v)))) := by
  refine ⟨h.new, h.ne, by rw [upd_same, ← List.map_set], by rw [List.length_set, h.len], fun x hx => ?_, by rw [hid2_upd h.ne]; exact h.same, h.well.upd h.ne⟩
  rcases List.mem_or_eq_of_mem_set hx with e | e
  · exact h.bd x e
  · subst e
    exact ⟨v0, v1⟩
/-! ### heaps -/
/-- a heap as the law draws it -/
structure HeapOk (qs : List Rat) : Prop where
  nn : ∀ q ∈ qs, 0 ≤ q
  den : ∃ S : Nat, 0 < S ∧ S ≤ 1000 ∧ ∀ q ∈ qs, q.den ∣ S
  one : rsum qs = 1
theorem rsum_div (S : Int) : ∀ ns : List Int, rsum (ns.map fun x => Rat.divInt x S) = Rat.divInt ns.sum S
  | [] => by simp [rsum]
  | x :: r => by
    rw [List.map_cons, List.sum_cons, divInt_add_same, ← rsum_div S r]
    rfl
theorem sum_nn : ∀ {ns : List Int}, (∀ x ∈ ns, 0 ≤ x) → 0 ≤ ns.sum
  | [], _ => by simp
  | x :: r, h => by
    rw [List.sum_cons]
    have := h x List.mem_cons_self
    have := sum_nn (ns := r) fun y hy => h y (List.mem_cons_of_mem _ hy)
    omega
theorem sum_le {B : Int} : ∀ {ns : List Int}, (∀ x ∈ ns, x ≤ B) → ns.sum ≤ ns.length * B
  | [], _ => by simp
  | x :: r, h => by
    rw [List.sum_cons, List.length_cons]
    have := h x List.mem_cons_self
    have := sum_le (ns := r) fun y hy => h y (List.mem_cons_of_mem _ hy)
    have e : ((r.length + 1 : Nat) : Int) * B = (r.length : Int) * B + B := by
      rw [Int.natCast_add, Int.add_mul]
      simp
    rw [e]
    omega
theorem sum_ge : ∀ {ns : List Int}, (∀ x ∈ ns, 0 ≤ x) → ∀ {x : Int}, x ∈ ns → x ≤ ns.sum
  | y :: r, h, x, hx => by
    rw [List.sum_cons]
    have h0 := h y List.mem_cons_self
    have hr := sum_nn (ns := r) fun y hy => h y (List.mem_cons_of_mem _ hy)
    rcases List.mem_cons.mp hx with e | e
    · subst e
      omega
    · have := sum_ge (ns := r) (fun y hy => h y (List.mem_cons_of_mem _ hy)) e
      omega
theorem den_dvd_bot {t : Int} {S : Nat} (h : 0 < S) : (Rat.divInt t (S : Int)).den ∣ S := by
  rw [Rat.den_divInt, if_neg (by omega)]
  simp only [Int.natAbs_natCast]
  refine Nat.div_dvd_of_dvd ?_
  have := Int.gcd_dvd_left (S : Int) t
  exact Int.natCast_dvd_natCast.mp this
theorem heap_ok {ns : List Int} {B : Int} (hb : ∀ x ∈ ns, 0 ≤ x ∧ x ≤ B) (h0 : 0 < ns.sum) (hl : ns.length ≤ 12) (hB : 0 ≤ B ∧ B ≤ 60) : HeapOk (ns.map fun x => Rat.divInt x ns.sum) := by
  have hS : ((ns.sum.toNat : Nat) : Int) = ns.sum := by omega
  have le : ns.sum ≤ 1000 := by
    have := sum_le fun x hx => (hb x hx).2
    have := Int.mul_le_mul (a := (ns.length : Int)) (b := B) (c := 12) (d := 60) (by omega) hB.2 hB.1 (by decide)
    omega
  refine ⟨fun q hq => ?_, ⟨ns.sum.toNat, by omega, by omega, fun q hq => ?_⟩, ?_⟩
  · obtain ⟨x, hx, rfl⟩ := List.mem_map.mp hq
    exact (Rat.divInt_nonneg_iff_of_pos_right h0).mpr (hb x hx).1
  · obtain ⟨x, hx, rfl⟩ := List.mem_map.mp hq
    rw [← hS]
    exact den_dvd_bot (by omega)
  · rw [rsum_div, Rat.divInt_self' (by omega)]
end Fb

/-! Part A11: pairs that stand for fractions, vectors and tables of them; a list compared with []; the mathematics of filling. -/
namespace Fb
open PySem PySem.Spec PyProof.Rows L2
section
variable {X : Cx}
/-- a list against [] -/
def rNil (K : PySem.W.Frag) (g : Bool → Bool) : R2 := fun x y H Q => ∃ a c xs, x = .ref a ∧ y = .ref c ∧ SqL K H a xs ∧ SqL K H c [] ∧ Q (.bl (g xs.isEmpty)) H
theorem op_eqNil (hu : X.A.units < cLine) : OpR X (compareOp .Eq) (rNil X.K id) := by
  intro pins s σ H x y v u Q I rx ry h
  obtain ⟨a, c, xs, rfl, rfl, ha, hc, q⟩ := h
  cases rx
  cases ry
  obtain ⟨its, r, hl, _⟩ := I.list ha
  obtain ⟨its2, r2, hl2, _⟩ := I.list hc
  cases r2
  show wpAny (model X.prog X.w) X.A (richCompare .Eq (.ref a) (.ref c)) (EP X pins σ Q) X.xe s
  cases r with
  | nil => exact SeqAt.RcAt.lists (e := fun _ => true) hl.isList hl2.isList rfl hu (fun j h => absurd h (by simp)) X.prog X.w X.xe _ ⟨.bl true, H, I, rfl, q⟩
  | cons _ _ => exact SeqAt.RcAt.lists_lengths hl.isList hl2.isList (by simp) hu X.prog X.w X.xe _ ⟨.bl false, H, I, rfl, q⟩
theorem op_neNil (hu : X.A.units < cLine) : OpR X (compareOp .NotEq) (rNil X.K not) := by
  intro pins s σ H x y v u Q I rx ry h
  obtain ⟨a, c, xs, rfl, rfl, ha, hc, q⟩ := h
  cases rx
  cases ry
  obtain ⟨its, r, hl, _⟩ := I.list ha
  obtain ⟨its2, r2, hl2, _⟩ := I.list hc
  cases r2
  show wpAny (model X.prog X.w) X.A (richCompare .NotEq (.ref a) (.ref c)) (EP X pins σ Q) X.xe s
  cases r with
  | nil => exact SeqAt.RcNeAt.lists (e := fun _ => true) hl.isList hl2.isList rfl hu (fun j h => absurd h (by simp)) X.prog X.w X.xe _ ⟨.bl false, H, I, rfl, q⟩
  | cons _ _ => exact SeqAt.RcNeAt.lists_lengths hl.isList hl2.isList (by simp) hu X.prog X.w X.xe _ ⟨.bl true, H, I, rfl, q⟩
theorem op_eqNilK {K : PySem.W.Frag} (hK : X.K = K) (hu : X.A.units < cLine) : OpR X (compareOp .Eq) (rNil K id) := hK ▸ op_eqNil hu
end
/-! ### pairs -/
def IsPr (H : Hp) (v : V) (q : Rat) : Prop := IsTup2 H v q.num (q.den : Int)
theorem IsPr.mono {H H' : Hp} {v : V} {q : Rat} (h : IsPr H v q) (s : Same H H') : IsPr H' v q := IsTup2.mono h s
def IsPrs (H : Hp) (v : V) (qs : List Rat) : Prop := ∃ p vs, v = .ref p ∧ H p = some (.lst vs) ∧ AllAre (IsPr H) vs qs
theorem IsPrs.mono {H H' : Hp} {v : V} {qs : List Rat} (h : IsPrs H v qs) (s : Same H H') : IsPrs H' v qs := by
  obtain ⟨p, vs, e, h, a⟩ := h
  exact ⟨p, vs, e, s _ _ h, a.imp fun _ _ r => r.mono s⟩
/-- tuples stay -/
def TS (H H' : Hp) : Prop := ∀ p xs, H p = some (.tup xs) → H' p = some (.tup xs)
theorem TS.rfl' {H : Hp} : TS H H := fun _ _ h => h
theorem TS.trans {H H1 H2 : Hp} (a : TS H H1) (b : TS H1 H2) : TS H H2 := fun p xs h => b p xs (a p xs h)
theorem TS.same {H H' : Hp} (s : Same H H') : TS H H' := fun p xs h => s p _ h
theorem TS.well {H H' : Hp} {a : Addr} {n : Nat} (w : WellAt H a n) (s : Same (hid a H) (hid a H')) : TS H H' := fun p xs h => hid_same _ _ (s p _ (hid_keep w h (fun _ => nofun)))
theorem TS.lst {H : Hp} {p : Addr} {ys : List V} {o : HO} (h : H p = some (.lst ys)) : TS H (upd H p o) := fun b xs e => by
  rw [upd_ne (fun z => by rw [z, h] at e; cases e)]
  exact e
theorem IsPr.ts {H H' : Hp} {v : V} {q : Rat} (h : IsPr H v q) (s : TS H H') : IsPr H' v q := by
  obtain ⟨p, e, h⟩ := h
  exact ⟨p, e, s _ _ h⟩
theorem IsTup2.ts {H H' : Hp} {v : V} {t b : Int} (h : IsTup2 H v t b) (s : TS H H') : IsTup2 H' v t b := by
  obtain ⟨p, e, h⟩ := h
  exact ⟨p, e, s _ _ h⟩
/-- a list of m pairs -/
def VecAt (H : Hp) (p : Addr) (m : Nat) (h : Nat → Rat) : Prop := ∃ vs, H p = some (.lst vs) ∧ vs.length = m ∧ ∀ (i : Nat) v, vs[i]? = some v → IsPr H v (h i)
theorem VecAt.ts {H H' : Hp} {p : Addr} {m : Nat} {h : Nat → Rat} (v : VecAt H p m h) (s : TS H H') (e : H' p = H p) : VecAt H' p m h := by
  obtain ⟨vs, ev, l, r⟩ := v
  exact ⟨vs, by rw [e]; exact ev, l, fun i v hv => (r i v hv).ts s⟩
theorem VecAt.at {H : Hp} {p : Addr} {m : Nat} {h : Nat → Rat} (v : VecAt H p m h) {j : Nat} (hj : j < m) : ∃ vs x, H p = some (.lst vs) ∧ vs.length = m ∧ vs[j]? = some x ∧ IsPr H x (h j) := by
  obtain ⟨vs, ev, l, r⟩ := v
  have hj' : j < vs.length := by omega
  exact ⟨vs, _, ev, l, List.getElem?_eq_getElem hj', r j _ (List.getElem?_eq_getElem hj')⟩
def put (h : Nat → Rat) (j : Nat) (z : Rat) : Nat → Rat := fun i => if i = j then z else h i
theorem VecAt.set {H : Hp} {p : Addr} {m : Nat} {h : Nat → Rat} {vs : List V} {j : Nat} {x : V} {z : Rat} (v : VecAt H p m h) (e : H p = some (.lst vs)) (hx : IsPr H x z) : VecAt (upd H p (.lst (vs.set j x))) p m (put h j z) := by
  obtain ⟨vs', ev, l, r⟩ := v
  rw [e] at ev
  cases ev
  have s : TS H (upd H p (.lst (vs.set j x))) := TS.lst e
  refine ⟨_, upd_same, by rw [List.length_set, l], fun i y hy => ?_⟩
  unfold put
  rw [List.getElem?_set] at hy
  by_cases hij : j = i
  · subst hij
    rw [if_pos rfl] at hy
    rw [if_pos rfl]
    split at hy
    · cases hy
      exact hx.ts s
    · cases hy
  · rw [if_neg hij] at hy
    rw [if_neg (fun z => hij z.symm)]
    exact (r i y hy).ts s
/-! ### sums over ranges -/
def rsumN (n : Nat) (f : Nat → Rat) : Rat := rsum ((List.range n).map f)
theorem rsumN_succ (n : Nat) (f : Nat → Rat) : rsumN (n + 1) f = rsumN n f + f n := by
  unfold rsumN
  rw [List.range_succ, List.map_append, rsum_append]
  show _ + (f n + 0) = _
  rw [Rat.add_zero]
theorem rsumN_congr {n : Nat} {f g : Nat → Rat} (h : ∀ i, i < n → f i = g i) : rsumN n f = rsumN n g := by
  induction n with
  | zero => rfl
  | succ n ih => rw [rsumN_succ, rsumN_succ, ih fun i hi => h i (by omega), h n (by omega)]
theorem rsumN_add (n : Nat) (f g : Nat → Rat) : rsumN n (fun i => f i + g i) = rsumN n f + rsumN n g := by
  induction n with
  | zero => exact (Rat.add_zero 0).symm
  | succ n ih => rw [rsumN_succ, rsumN_succ, rsumN_succ, ih]; grind
theorem rsumN_zero {n : Nat} {f : Nat → Rat} (h : ∀ i, i < n → f i = 0) : rsumN n f = 0 := by
  induction n with
  | zero => rfl
  | succ n ih => rw [rsumN_succ, ih fun i hi => h i (by omega), h n (by omega), Rat.add_zero]
theorem rsumN_nn {n : Nat} {f : Nat → Rat} (h : ∀ i, i < n → 0 ≤ f i) : 0 ≤ rsumN n f := by
  induction n with
  | zero => exact Rat.le_refl
  | succ n ih =>
    rw [rsumN_succ]
    have h1 := ih fun i hi => h i (by omega)
    have h2 := h n (by omega)
    grind
theorem rsumN_ge {n : Nat} {f : Nat → Rat} (h : ∀ i, i < n → 0 ≤ f i) {j : Nat} (hj : j < n) : f j ≤ rsumN n f := by
  induction n with
  | zero => omega
  | succ n ih =>
    rw [rsumN_succ]
    have h2 := h n (by omega)
    have h3 := rsumN_nn fun i (hi : i < n) => h i (by omega)
    by_cases e : j = n
    · subst e
      grind
    · have := ih (fun i hi => h i (by omega)) (by omega)
      grind
theorem rsumN_put {n : Nat} {f : Nat → Rat} {j : Nat} {z : Rat} (hj : j < n) : rsumN n (put f j z) = rsumN n f + (z - f j) := by
  induction n with
  | zero => omega
  | succ n ih =>
    rw [rsumN_succ, rsumN_succ]
    by_cases e : j = n
    · subst e
      rw [rsumN_congr (g := f) fun i hi => by unfold put; rw [if_neg (by omega)]]
      unfold put
      rw [if_pos rfl]
      grind
    · rw [ih (by omega)]
      have : put f j z n = f n := by unfold put; rw [if_neg (fun h => e h.symm)]
      rw [this]
      grind
theorem rsumN_put' {n : Nat} {f : Nat → Rat} {j : Nat} {z : Rat} (hj : n ≤ j) : rsumN n (put f j z) = rsumN n f :=
  rsumN_congr fun i hi => by unfold put; rw [if_neg (by omega)]
theorem rsumN_swap (m k : Nat) (T : Nat → Nat → Rat) : rsumN m (fun x => rsumN k (T x)) = rsumN k fun y => rsumN m fun x => T x y := by
  induction m with
  | zero => exact (rsumN_zero fun _ _ => rfl).symm
  | succ m ih =>
    rw [rsumN_succ, ih, ← rsumN_add]
    exact rsumN_congr fun i _ => (rsumN_succ m _).symm
/-! ### bottoms -/
theorem den_sub {a b : Rat} {S : Nat} (h0 : 0 < S) (ha : a.den ∣ S) (hb : b.den ∣ S) : (a - b).den ∣ S := by
  have e : a - b = Rat.divInt (a.num * ((S / a.den : Nat) : Int) + -(b.num * ((S / b.den : Nat) : Int))) (S : Int) := by
    rw [divInt_add_same, tops_one h0 ha, ← Rat.neg_divInt, tops_one h0 hb, Rat.sub_eq_add_neg]
  rw [e]
  exact den_dvd_bot h0
theorem bd_frac {q : Rat} {S : Nat} (q0 : 0 ≤ q) (q1 : q ≤ 1) (h0 : 0 < S) (hS : S ≤ 1000000) (hd : q.den ∣ S) : Bd 21 q := by
  have h1 : q.den ≤ S := Nat.le_of_dvd h0 hd
  have n0 : 0 ≤ q.num := Rat.num_nonneg.mpr q0
  have n1 : q.num ≤ (q.den : Int) := by
    have := (Rat.le_iff q 1).mp q1
    simpa using this
  exact ⟨by omega, by omega⟩
/-! ### filling -/
structure FillM (m k : Nat) (p q : Nat → Rat) (S : Nat) (h g : Nat → Rat) (T : Nat → Nat → Rat) (sp : List (Nat × Nat)) : Prop where
  row : ∀ x, x < m → h x + rsumN k (T x) = p x
  col : ∀ y, y < k → g y + rsumN m (fun x => T x y) = q y
  h0 : ∀ x, x < m → 0 ≤ h x ∧ h x ≤ 1 ∧ (h x).den ∣ S
  g0 : ∀ y, y < k → 0 ≤ g y ∧ g y ≤ 1 ∧ (g y).den ∣ S
  t0 : ∀ x y, x < m → y < k → 0 ≤ T x y ∧ T x y ≤ 1 ∧ (T x y).den ∣ S
  done : ∀ x y, x < m → y < k → (x, y) ∉ sp → h x = 0 ∨ g y = 0
  todo : ∀ xy ∈ sp, T xy.1 xy.2 = 0
  inb : ∀ xy ∈ sp, xy.1 < m ∧ xy.2 < k
  nd : sp.Nodup
def put2 (T : Nat → Nat → Rat) (x y : Nat) (z : Rat) : Nat → Nat → Rat := fun i => if i = x then put (T x) y z else T i
theorem FillM.step {m k : Nat} {p q : Nat → Rat} {S : Nat} {h g : Nat → Rat} {T : Nat → Nat → Rat} {sp : List (Nat × Nat)} (F : FillM m k p q S h g T sp) (hS : 0 < S) {c x y : Nat} (hc : sp[c]? = some (x, y)) {z : Rat} (hz : z = if g y < h x then g y else h x) :
    FillM m k p q S (put h x (h x - z)) (put g y (g y - z)) (put2 T x y z) (sp.eraseIdx c) := by
  have hm := List.mem_of_getElem? hc
  have hx : x < m := (F.inb _ hm).1
  have hy : y < k := (F.inb _ hm).2
  have t : T x y = 0 := F.todo _ hm
  obtain ⟨l1, l2, e1, e2⟩ : ∃ l1 l2, sp = l1 ++ (x, y) :: l2 ∧ sp.eraseIdx c = l1 ++ l2 := by
    have hl := (List.getElem?_eq_some_iff.mp hc).1
    refine ⟨sp.take c, sp.drop (c + 1), ?_, List.eraseIdx_eq_take_drop_succ ..⟩
    have := (List.getElem?_eq_some_iff.mp hc).2
    rw [← this, ← List.drop_eq_getElem_cons hl, List.take_append_drop]
  have nin : (x, y) ∉ sp.eraseIdx c := by
    have nd := F.nd
    rw [e1] at nd
    rw [e2]
    have := List.nodup_append.mp nd
    have h2 := List.nodup_cons.mp this.2.1
    intro hmem
    rcases List.mem_append.mp hmem with h | h
    · exact this.2.2 _ h _ List.mem_cons_self rfl
    · exact h2.1 h
  obtain ⟨hx0, hx1, hxd⟩ := F.h0 x hx
  obtain ⟨gy0, gy1, gyd⟩ := F.g0 y hy
  have z3 : 0 ≤ z ∧ z ≤ h x ∧ z ≤ g y ∧ z.den ∣ S ∧ (h x - z = 0 ∨ g y - z = 0) := by
    subst hz
    split
    · exact ⟨gy0, by grind, by grind, gyd, .inr (by grind)⟩
    · exact ⟨hx0, by grind, by grind, hxd, .inl (by grind)⟩
  obtain ⟨z0, zh, zg, zd, zz⟩ := z3
  refine ⟨fun i hi => ?_, fun j hj => ?_, fun i hi => ?_, fun j hj => ?_, fun i j hi hj => ?_, fun i j hi' hj hn => ?_, fun xy hxy => ?_, fun xy hxy => F.inb xy (List.mem_of_mem_eraseIdx hxy), F.nd.sublist (List.eraseIdx_sublist ..)⟩
  · have := F.row i hi
    by_cases e : i = x
    · subst e
      simp only [put, put2, if_true]
      rw [rsumN_put (f := T i) (z := z) hy, t]
      grind
    · simp only [put, put2, if_neg e]
      exact this
  · have := F.col j hj
    by_cases e : j = y
    · subst e
      have e2 : (fun i => put2 T x j z i j) = put (fun i => T i j) x z := by
        funext i
        by_cases e : i = x
        · subst e
          simp [put2, put]
        · simp [put2, put, e]
      rw [e2, rsumN_put hx]
      simp only [put, if_true]
      rw [t]
      grind
    · have e2 : (fun i => put2 T x y z i j) = fun i => T i j := by
        funext i
        by_cases e' : i = x
        · subst e'
          simp [put2, put, e]
        · simp [put2, e']
      rw [e2]
      simp only [put, if_neg e]
      exact this
  · by_cases e : i = x
    · subst e
      simp only [put, if_true]
      exact ⟨by grind, by grind, den_sub hS hxd zd⟩
    · simp only [put, if_neg e]
      exact F.h0 i hi
  · by_cases e : j = y
    · subst e
      simp only [put, if_true]
      exact ⟨by grind, by grind, den_sub hS gyd zd⟩
    · simp only [put, if_neg e]
      exact F.g0 j hj
  · by_cases e : i = x
    · subst e
      by_cases e' : j = y
      · subst e'
        simp only [put2, put, if_true]
        exact ⟨z0, by grind, zd⟩
      · simp only [put2, put, if_true, if_neg e']
        exact F.t0 i j hi hj
    · simp only [put2, if_neg e]
      exact F.t0 i j hi hj
  · by_cases e : (i, j) = (x, y)
    · cases e
      simp only [put, if_true]
      exact zz
    · have hn' : (i, j) ∉ sp := fun hmem => by
        refine hn ?_
        rw [e1] at hmem
        rw [e2]
        rcases List.mem_append.mp hmem with h | h
        · exact List.mem_append_left _ h
        · rcases List.mem_cons.mp h with h | h
          · exact absurd h e
          · exact List.mem_append_right _ h
      have := F.done i j hi' hj hn'
      simp only [put]
      split <;> split <;> grind
  · have hmem := List.mem_of_mem_eraseIdx hxy
    have t' := F.todo xy hmem
    have ne : xy ≠ (x, y) := fun e => nin (e ▸ hxy)
    obtain ⟨b, d⟩ := xy
    by_cases e : b = x
    · subst e
      have e' : d ≠ y := fun e' => ne (by rw [e'])
      simp only [put2, put, if_true, if_neg e']
      exact t'
    · simp only [put2, if_neg e]
      exact t'
theorem FillM.end_ {m k : Nat} {p q : Nat → Rat} {S : Nat} {h g : Nat → Rat} {T : Nat → Nat → Rat} (F : FillM m k p q S h g T []) (hp : rsumN m p = rsumN k q) : (∀ x, x < m → rsumN k (T x) = p x) ∧ ∀ y, y < k → rsumN m (fun x => T x y) = q y := by
  have e1 : rsumN m h + rsumN m (fun x => rsumN k (T x)) = rsumN m p := by
    rw [← rsumN_add]
    exact rsumN_congr F.row
  have e2 : rsumN k g + rsumN k (fun y => rsumN m fun x => T x y) = rsumN k q := by
    rw [← rsumN_add]
    exact rsumN_congr F.col
  rw [rsumN_swap] at e1
  have e3 : rsumN m h = rsumN k g := by grind
  have hz : (∀ x, x < m → h x = 0) ∧ ∀ y, y < k → g y = 0 := by
    by_cases hh : ∀ x, x < m → h x = 0
    · refine ⟨hh, fun y hy => ?_⟩
      have z := rsumN_zero hh
      have := rsumN_ge (fun i hi => (F.g0 i hi).1) hy
      have := (F.g0 y hy).1
      rw [← e3, z] at *
      grind
    · obtain ⟨x, hx⟩ := Classical.not_forall.mp hh
      obtain ⟨hx, hne⟩ := Classical.not_imp.mp hx
      have gz : ∀ y, y < k → g y = 0 := fun y hy => (F.done x y hx hy (by simp)).resolve_left hne
      refine ⟨fun i hi => ?_, gz⟩
      have z := rsumN_zero gz
      have := rsumN_ge (fun i hi => (F.h0 i hi).1) hi
      have := (F.h0 i hi).1
      rw [e3, z] at *
      grind
  exact ⟨fun x hx => by have := F.row x hx; rw [hz.1 x hx] at this; grind, fun y hy => by have := F.col y hy; rw [hz.2 y hy] at this; grind⟩
end Fb

/-! Part A12: the state of filling a plan, on the heap. -/
namespace Fb
open PySem PySem.Spec PyProof.Rows L2
theorem nodup_inj {α : Type} {l : List α} (nd : l.Nodup) {i j : Nat} {x : α} (hi : l[i]? = some x) (hj : l[j]? = some x) : i = j := by
  obtain ⟨i1, i2⟩ := List.getElem?_eq_some_iff.mp hi
  obtain ⟨j1, j2⟩ := List.getElem?_eq_some_iff.mp hj
  have p := List.pairwise_iff_getElem.mp nd
  rcases Nat.lt_trichotomy i j with h | h | h
  · exact absurd (i2.trans j2.symm) (p i j i1 j1 h)
  · exact h
  · exact absurd (j2.trans i2.symm) (p j i j1 i1 h)
structure FillAt (H0 : Hp) (a : Addr) (f m k : Nat) (ph pw pp ps : Addr) (rs : List Addr) (h g : Nat → Rat) (T : Nat → Nat → Rat) (sp : List (Nat × Nat)) (H : Hp) : Prop where
  same : Same (hid a H0) (hid a H)
  well : WellAt H a f
  new : ∀ p ∈ ph :: pw :: pp :: ps :: rs, H0 p = none ∧ p ≠ a
  dis : (ph :: pw :: pp :: ps :: rs).Nodup
  have_ : VecAt H ph m h
  want : VecAt H pw k g
  tab : H pp = some (.lst (rs.map V.ref))
  rlen : rs.length = m
  rows : ∀ (x : Nat) r, rs[x]? = some r → VecAt H r k (T x)
  spots : ∃ sv, H ps = some (.lst sv) ∧ AllAre (fun v (xy : Nat × Nat) => IsTup2 H v (xy.1 : Int) (xy.2 : Int)) sv sp
section
variable {H0 : Hp} {a : Addr} {f f' m k : Nat} {ph pw pp ps : Addr} {rs : List Addr} {h g : Nat → Rat} {T : Nat → Nat → Rat} {sp : List (Nat × Nat)} {H H' : Hp}
/-- tuples stay and the lists of filling stay -/
theorem FillAt.keep (F : FillAt H0 a f m k ph pw pp ps rs h g T sp H) (s : Same (hid a H) (hid a H')) (w : WellAt H' a f') : FillAt H0 a f' m k ph pw pp ps rs h g T sp H' := by
  have t := TS.well F.well s
  have e : ∀ p ∈ ph :: pw :: pp :: ps :: rs, ∀ o, H p = some o → H' p = some o := fun p hp o ho => by
    have := s p o (by rw [hid_ne (F.new p hp).2]; exact ho)
    rwa [hid_ne (F.new p hp).2] at this
  have v : ∀ p ∈ ph :: pw :: pp :: ps :: rs, ∀ n d, VecAt H p n d → VecAt H' p n d := fun p hp n d hv => by
    obtain ⟨vs, ev, l, r⟩ := hv
    exact ⟨vs, e p hp _ ev, l, fun i v hv => (r i v hv).ts t⟩
  refine ⟨F.same.trans s, w, F.new, F.dis, v _ (by simp) _ _ F.have_, v _ (by simp) _ _ F.want, e _ (by simp) _ F.tab, F.rlen, fun x r hr => v r ?_ _ _ (F.rows x r hr), ?_⟩
  · have := List.mem_of_getElem? hr
    simp [this]
  · obtain ⟨sv, es, as⟩ := F.spots
    exact ⟨sv, e _ (by simp) _ es, as.imp fun _ _ r => r.ts t⟩
/-- one of the lists of filling is set -/
theorem FillAt.upd_ (F : FillAt H0 a f m k ph pw pp ps rs h g T sp H) {p : Addr} {ys : List V} {o : HO} (hp : p ∈ ph :: pw :: pp :: ps :: rs) (e : H p = some (.lst ys)) :
    Same (hid a H0) (hid a (upd H p o)) ∧ WellAt (upd H p o) a f ∧ TS H (upd H p o) := by
  obtain ⟨n0, na⟩ := F.new p hp
  refine ⟨fun b u eb => ?_, F.well.upd na, TS.lst e⟩
  have hb : b ≠ p := fun z => by
    rw [z, hid_ne na, n0] at eb
    cases eb
  rw [hid_updN na, upd_ne hb]
  exact F.same b u eb
theorem FillAt.setH (F : FillAt H0 a f m k ph pw pp ps rs h g T sp H) {vs : List V} {j : Nat} {x : V} {z : Rat} (e : H ph = some (.lst vs)) (hx : IsPr H x z) : FillAt H0 a f m k ph pw pp ps rs (put h j z) g T sp (upd H ph (.lst (vs.set j x))) := by
  obtain ⟨s, w, t⟩ := F.upd_ (o := .lst (vs.set j x)) (by simp) e
  have d := List.nodup_cons.mp F.dis
  have ne : ∀ q ∈ pw :: pp :: ps :: rs, q ≠ ph := fun q hq z => d.1 (z ▸ hq)
  refine ⟨s, w, F.new, F.dis, F.have_.set e hx, F.want.ts t (upd_ne (ne _ (by simp))), by rw [upd_ne (ne _ (by simp))]; exact F.tab, F.rlen, fun x r hr => (F.rows x r hr).ts t (upd_ne (ne _ ?_)), ?_⟩
  · have := List.mem_of_getElem? hr
    simp [this]
  · obtain ⟨sv, es, as⟩ := F.spots
    exact ⟨sv, by rw [upd_ne (ne _ (by simp))]; exact es, as.imp fun _ _ r => r.ts t⟩
theorem FillAt.setW (F : FillAt H0 a f m k ph pw pp ps rs h g T sp H) {vs : List V} {j : Nat} {x : V} {z : Rat} (e : H pw = some (.lst vs)) (hx : IsPr H x z) : FillAt H0 a f m k ph pw pp ps rs h (put g j z) T sp (upd H pw (.lst (vs.set j x))) := by
  obtain ⟨s, w, t⟩ := F.upd_ (o := .lst (vs.set j x)) (by simp) e
  have d0 := List.nodup_cons.mp F.dis
  have d := List.nodup_cons.mp d0.2
  have ne : ∀ q ∈ pp :: ps :: rs, q ≠ pw := fun q hq z => d.1 (z ▸ hq)
  have ne0 : ph ≠ pw := fun z => d0.1 (by simp [z])
  refine ⟨s, w, F.new, F.dis, F.have_.ts t (upd_ne ne0), F.want.set e hx, by rw [upd_ne (ne _ (by simp))]; exact F.tab, F.rlen, fun x r hr => (F.rows x r hr).ts t (upd_ne (ne _ ?_)), ?_⟩
  · have := List.mem_of_getElem? hr
    simp [this]
  · obtain ⟨sv, es, as⟩ := F.spots
    exact ⟨sv, by rw [upd_ne (ne _ (by simp))]; exact es, as.imp fun _ _ r => r.ts t⟩
theorem FillAt.setR (F : FillAt H0 a f m k ph pw pp ps rs h g T sp H) {r : Addr} {vs : List V} {x y : Nat} {v : V} {z : Rat} (hr : rs[x]? = some r) (e : H r = some (.lst vs)) (hx : IsPr H v z) : FillAt H0 a f m k ph pw pp ps rs h g (put2 T x y z) sp (upd H r (.lst (vs.set y v))) := by
  have hm := List.mem_of_getElem? hr
  obtain ⟨s, w, t⟩ := F.upd_ (o := .lst (vs.set y v)) (by simp [hm]) e
  have d := F.dis
  simp only [List.nodup_cons, List.mem_cons, not_or] at d
  have n1 : ph ≠ r := fun z => d.1.2.2.2 (z ▸ hm)
  have n2 : pw ≠ r := fun z => d.2.1.2.2 (z ▸ hm)
  have n3 : pp ≠ r := fun z => d.2.2.1.2 (z ▸ hm)
  have n4 : ps ≠ r := fun z => d.2.2.2.1 (z ▸ hm)
  refine ⟨s, w, F.new, F.dis, F.have_.ts t (upd_ne n1), F.want.ts t (upd_ne n2), by rw [upd_ne n3]; exact F.tab, F.rlen, fun x' r' hr' => ?_, ?_⟩
  · by_cases ex : x' = x
    · subst ex
      rw [hr] at hr'
      cases hr'
      have := (F.rows x' r hr).set (j := y) e hx
      simpa [put2] using this
    · have hne : r' ≠ r := fun z => by
        have nd := d.2.2.2.2
        exact ex (nodup_inj nd hr' (z ▸ hr))
      simp only [put2, if_neg ex]
      exact (F.rows x' r' hr').ts t (upd_ne hne)
  · obtain ⟨sv, es, as⟩ := F.spots
    exact ⟨sv, by rw [upd_ne n4]; exact es, as.imp fun _ _ r => r.ts t⟩
theorem AllAre.erase {α : Type} {R : V → α → Prop} {vs : List V} {xs : List α} (h : AllAre R vs xs) (n : Nat) : AllAre R (vs.eraseIdx n) (xs.eraseIdx n) := by
  rw [List.eraseIdx_eq_take_drop_succ, List.eraseIdx_eq_take_drop_succ]
  exact (h.take n).append (h.drop (n + 1))
theorem FillAt.pop (F : FillAt H0 a f m k ph pw pp ps rs h g T sp H) {sv : List V} {j : Nat} (e : H ps = some (.lst sv)) : FillAt H0 a f m k ph pw pp ps rs h g T (sp.eraseIdx j) (upd H ps (.lst (sv.eraseIdx j))) := by
  obtain ⟨s, w, t⟩ := F.upd_ (o := .lst (sv.eraseIdx j)) (by simp) e
  have d := F.dis
  simp only [List.nodup_cons, List.mem_cons, not_or] at d
  have n1 : ph ≠ ps := d.1.2.2.1
  have n2 : pw ≠ ps := d.2.1.2.1
  have n3 : pp ≠ ps := d.2.2.1.1
  refine ⟨s, w, F.new, F.dis, F.have_.ts t (upd_ne n1), F.want.ts t (upd_ne n2), by rw [upd_ne n3]; exact F.tab, F.rlen, fun x' r' hr' => (F.rows x' r' hr').ts t (upd_ne fun z => d.2.2.2.1 (z ▸ List.mem_of_getElem? hr')), ?_⟩
  obtain ⟨sv', es, as⟩ := F.spots
  rw [e] at es
  cases es
  exact ⟨_, upd_same, (as.erase j).imp fun _ _ r => r.ts t⟩
end
/-- the plan that is told -/
structure PlanOk (m k : Nat) (p q : Nat → Rat) (T : Nat → Nat → Rat) : Prop where
  row : ∀ x, x < m → rsumN k (T x) = p x
  col : ∀ y, y < k → rsumN m (fun x => T x y) = q y
  t0 : ∀ x y, x < m → y < k → 0 ≤ T x y ∧ Bd 21 (T x y)
  den : ∃ S : Nat, 0 < S ∧ S ≤ 1000000 ∧ ∀ x y, x < m → y < k → T x y ≤ 1 ∧ (T x y).den ∣ S
end Fb

/-! Part A13: comprehensions that make rows; lists and functions. -/
namespace Fb
open PySem PySem.Spec PyProof.Rows L2
theorem pi_listK {X : Cx} {K : PySem.W.Frag} {tg l : Expr} {tl : TE} (hK : X.K = K) (hl : PE X l tl) : PI X tg l (iList K tl) := hK ▸ pi_list hl
theorem VecAt.same {H H' : Hp} {p : Addr} {m : Nat} {h : Nat → Rat} (v : VecAt H p m h) (s : Same H H') : VecAt H' p m h := by
  obtain ⟨vs, ev, l, r⟩ := v
  exact ⟨vs, s _ _ ev, l, fun i v hv => (r i v hv).mono s⟩
theorem lc_rows {K : PySem.W.Frag} {a : Addr} {xs : List V} {g : TG} {te : TE} {vs : List Nat} {σ : L2.St} {H1 : Hp} {D : Addr} {Qd : Hp → Prop} (k : Nat) (f : Nat → Rat)
    (hD : H1 D = none) (hS : SqL K H1 a xs) (hz : xs.length ≤ 1000)
    (hs : ∀ (i : Nat) x H (kk : V → Hp → Prop), xs[i]? = some x → Same H1 H → (∀ r H4, H r = none → Same H H4 → VecAt H4 r k f → kk (.ref r) H4) → g x (wipe σ vs) H fun σ2 H2 => wipe σ2 vs = wipe σ vs ∧ te σ2 H2 kk)
    (hd : ∀ H rs, Same H1 (hid D H) → H D = some (.lst (rs.map V.ref)) → rs.length = xs.length → (D :: rs).Nodup → (∀ r ∈ rs, H1 r = none ∧ VecAt H r k f) → Qd H) :
    ∃ W : Nat → Nat → Hp → Prop, (∃ m, W 0 m (upd H1 D (.lst []))) ∧ ∀ i m H, W i m H →
      ((Itl K a).stop i H ∧ Qd H) ∨ ((Itl K a).go i H ∧ ∃ Nx : Hp → Prop, (∀ H', Nx H' → ∃ m', m' < m ∧ W (i + 1) m' H') ∧ ∀ x H', (Itl K a).yld i H x H' → g x (wipe σ vs) H' fun σ2 H2 => wipe σ2 vs = wipe σ vs ∧ tYes σ2 H2 fun b H3 =>
        if b = true then te σ2 H3 fun y H4 => ∃ acc, H4 D = some (.lst acc) ∧ acc.length < sizeLine ∧ Nx (upd H4 D (.lst (acc ++ [y]))) else Nx H3) := by
  refine lc_list (xs := xs) (fun i H => ∃ rs : List Addr, Same H1 (hid D H) ∧ H D = some (.lst (rs.map V.ref)) ∧ rs.length = i ∧ (D :: rs).Nodup ∧ ∀ r ∈ rs, H1 r = none ∧ VecAt H r k f) ⟨[], ?_, upd_same, rfl, by simp, fun r h => by simp at h⟩ (fun i H _ h => ?_) (fun i x H hx h => ?_) (fun H h => ?_)
  · intro b o e
    rw [hid_ne (ne_of_none e hD), upd_ne (ne_of_none e hD)]
    exact e
  · obtain ⟨rs, s, _⟩ := h
    exact (s.trans hid_same).seq hS
  · obtain ⟨rs, s, e, l, nd, r⟩ := h
    have hi : i < xs.length := (List.getElem?_eq_some_iff.mp hx).1
    refine hs i x H (fun y H4 => ∃ acc, H4 D = some (.lst acc) ∧ acc.length < sizeLine ∧ ∃ rs : List Addr, Same H1 (hid D (upd H4 D (.lst (acc ++ [y])))) ∧ (upd H4 D (.lst (acc ++ [y]))) D = some (.lst (rs.map V.ref)) ∧ rs.length = i + 1 ∧ (D :: rs).Nodup ∧ ∀ r ∈ rs, H1 r = none ∧ VecAt (upd H4 D (.lst (acc ++ [y]))) r k f) hx (s.trans hid_same) fun q H4 nq s4 vq => ?_
    have e4 := s4 _ _ e
    have qD : q ≠ D := fun z => by rw [z, e] at nq; cases nq
    have up : ∀ r', r' ≠ D → VecAt H4 r' k f → VecAt (upd H4 D (.lst (rs.map V.ref ++ [.ref q]))) r' k f := fun r' hr v => v.ts (TS.lst e4) (upd_ne hr)
    refine ⟨_, e4, small1000 (by rw [List.length_map]; omega), rs ++ [q], ?_, by rw [upd_same]; simp, by simp [l], ?_, fun r' hr' => ?_⟩
    · rw [hid_upd]
      exact s.trans (hid_mono s4)
    · have n1 := List.nodup_cons.mp nd
      refine List.nodup_cons.mpr ⟨?_, ?_⟩
      · simp only [List.mem_append, List.mem_singleton, not_or]
        exact ⟨n1.1, fun z => qD z.symm⟩
      · refine List.nodup_append.mpr ⟨n1.2, by simp, fun x hx y hy => ?_⟩
        have : y = q := by simpa using hy
        subst this
        intro z
        obtain ⟨vs', ev, _⟩ := (r x hx).2
        rw [z, nq] at ev
        cases ev
    · rcases List.mem_append.mp hr' with h | h
      · have n1 := List.nodup_cons.mp nd
        exact ⟨(r r' h).1, up r' (fun z => n1.1 (z ▸ h)) ((r r' h).2.same s4)⟩
      · have : r' = q := by simpa using h
        subst this
        refine ⟨?_, up _ qD vq⟩
        cases e' : H1 r' with
        | none => rfl
        | some o =>
          have := hid_same _ _ (s _ _ e')
          rw [nq] at this
          cases this
  · obtain ⟨rs, s, e, l, nd, r⟩ := h
    exact hd H rs s e l nd r
/-- [e for x in range(..)] that only makes -/
theorem lc_allR {lo : Int} {n : Nat} {g : TG} {te : TE} {vs : List Nat} {σ : L2.St} {H1 : Hp} {D : Addr} {Qd : Hp → Prop} (R : Nat → V → Hp → Prop) (mono : ∀ i v H H', Same H H' → R i v H → R i v H')
    (hD : H1 D = none) (hz : n ≤ 1000)
    (hs : ∀ i H (k : V → Hp → Prop), i < n → Same H1 (hid D H) → (∃ ys, H D = some (.lst ys)) → (∀ y H4, Same H H4 → R i y (hid D H4) → k y H4) → g (.int (lo + i)) (wipe σ vs) H fun σ2 H2 => wipe σ2 vs = wipe σ vs ∧ te σ2 H2 k)
    (hd : ∀ H ys, Same H1 (hid D H) → H D = some (.lst ys) → ys.length = n → (∀ i y, ys[i]? = some y → R i y (hid D H)) → Qd H) :
    ∃ W : Nat → Nat → Hp → Prop, (∃ m, W 0 m (upd H1 D (.lst []))) ∧ ∀ i m H, W i m H →
      ((Itr lo n).stop i H ∧ Qd H) ∨ ((Itr lo n).go i H ∧ ∃ Nx : Hp → Prop, (∀ H', Nx H' → ∃ m', m' < m ∧ W (i + 1) m' H') ∧ ∀ x H', (Itr lo n).yld i H x H' → g x (wipe σ vs) H' fun σ2 H2 => wipe σ2 vs = wipe σ vs ∧ tYes σ2 H2 fun b H3 =>
        if b = true then te σ2 H3 fun y H4 => ∃ acc, H4 D = some (.lst acc) ∧ acc.length < sizeLine ∧ Nx (upd H4 D (.lst (acc ++ [y]))) else Nx H3) := by
  refine lc_range (fun i H => ∃ ys, Same H1 (hid D H) ∧ H D = some (.lst ys) ∧ ys.length = i ∧ ∀ j y, ys[j]? = some y → R j y (hid D H)) ⟨[], ?_, upd_same, rfl, fun j y h => by simp at h⟩ (fun i H hi h => ?_) (fun H h => ?_)
  · intro b o e
    rw [hid_ne (ne_of_none e hD), upd_ne (ne_of_none e hD)]
    exact e
  · obtain ⟨ys, s, e, l, r⟩ := h
    refine hs i H (fun y H4 => ∃ acc, H4 D = some (.lst acc) ∧ acc.length < sizeLine ∧ ∃ ys, Same H1 (hid D (upd H4 D (.lst (acc ++ [y])))) ∧ (upd H4 D (.lst (acc ++ [y]))) D = some (.lst ys) ∧ ys.length = i + 1 ∧ ∀ j y', ys[j]? = some y' → R j y' (hid D (upd H4 D (.lst (acc ++ [y]))))) hi s ⟨_, e⟩ fun y H4 s4 ry => ?_
    refine ⟨ys, s4 _ _ e, small1000 (by omega), ys ++ [y], ?_, upd_same, by simp [l], fun j y' h => ?_⟩
    · rw [hid_upd]
      exact s.trans (hid_mono s4)
    · rw [hid_upd]
      by_cases hj : j < ys.length
      · rw [List.getElem?_append_left hj] at h
        exact mono _ _ _ _ (hid_mono s4) (r j y' h)
      · rw [List.getElem?_append_right (by omega)] at h
        have hj2 : j - ys.length = 0 := by
          have := (List.getElem?_eq_some_iff.mp h).1
          simp at this
          omega
        rw [hj2] at h
        simp at h
        subst h
        have : j = i := by omega
        rw [this]
        exact ry
  · obtain ⟨ys, s, e, l, r⟩ := h
    exact hd H ys s e l r
/-! ### lists and functions -/
def at0 (l : List Rat) (i : Nat) : Rat := l.getD i 0
theorem at0_of {l : List Rat} {i : Nat} {z : Rat} (h : l[i]? = some z) : at0 l i = z := by
  unfold at0
  rw [List.getD_eq_getElem?_getD, h]
  rfl
theorem at0_mem {l : List Rat} {i : Nat} (h : i < l.length) : at0 l i ∈ l := by
  rw [at0_of (List.getElem?_eq_getElem h)]
  exact List.getElem_mem h
theorem rsumN_at0 (l : List Rat) : rsumN l.length (at0 l) = rsum l := by
  unfold rsumN
  congr 1
  refine List.ext_getElem (by simp) fun i h1 h2 => ?_
  simp only [List.getElem_map, List.getElem_range]
  exact at0_of (List.getElem?_eq_getElem h2)
theorem IsPrs.vec {H : Hp} {p : Addr} {qs : List Rat} (h : IsPrs H (.ref p) qs) : VecAt H p qs.length (at0 qs) := by
  obtain ⟨p', vs, e, h, a⟩ := h
  cases e
  refine ⟨vs, h, a.1, fun i v hv => ?_⟩
  obtain ⟨z, hz, r⟩ := a.at hv
  rw [at0_of hz]
  exact r
theorem VecAt.prs {H : Hp} {p : Addr} {m : Nat} {f : Nat → Rat} (v : VecAt H p m f) : IsPrs H (.ref p) ((List.range m).map f) := by
  obtain ⟨vs, e, l, r⟩ := v
  refine ⟨p, vs, rfl, e, .of_ix (by simp [l]) fun i y hy => ⟨f i, ?_, r i y hy⟩⟩
  have hi := (List.getElem?_eq_some_iff.mp hy).1
  rw [List.getElem?_map, List.getElem?_range (by omega)]
  rfl
/-- the spots of filling, row by row -/
def spotsTo (k : Nat) : Nat → List (Nat × Nat)
  | 0 => []
  | x + 1 => spotsTo k x ++ (List.range k).map fun y => (x, y)
theorem spotsTo_len (k : Nat) : ∀ m, (spotsTo k m).length = m * k
  | 0 => by simp [spotsTo]
  | m + 1 => by
    rw [spotsTo, List.length_append, spotsTo_len k m, List.length_map, List.length_range, Nat.succ_mul]
theorem spotsTo_mem {k x y : Nat} : ∀ {m : Nat}, (x, y) ∈ spotsTo k m ↔ x < m ∧ y < k
  | 0 => by simp [spotsTo]
  | m + 1 => by
    rw [spotsTo, List.mem_append, spotsTo_mem, List.mem_map]
    simp only [List.mem_range, Prod.mk.injEq]
    constructor
    · rintro (h | ⟨y', h1, h2, h3⟩)
      · omega
      · omega
    · intro h
      by_cases e : x < m
      · exact .inl ⟨e, h.2⟩
      · exact .inr ⟨y, h.2, by omega, rfl⟩
theorem spotsTo_nodup (k : Nat) : ∀ m, (spotsTo k m).Nodup
  | 0 => by simp [spotsTo]
  | m + 1 => by
    rw [spotsTo]
    refine List.nodup_append.mpr ⟨spotsTo_nodup k m, ?_, fun a ha b hb => ?_⟩
    · refine List.pairwise_map.mpr (List.Pairwise.imp (fun h z => h ?_) List.nodup_range)
      simpa using z
    · obtain ⟨x, y⟩ := a
      have h1 := spotsTo_mem.mp ha
      obtain ⟨y', _, rfl⟩ := List.mem_map.mp hb
      intro z
      cases z
      omega
theorem heap_le1 {l : List Rat} (h : HeapOk l) {q : Rat} (hq : q ∈ l) : q ≤ 1 := by
  obtain ⟨i, hi, e⟩ := List.mem_iff_getElem.mp hq
  have := rsumN_ge (n := l.length) (f := at0 l) (fun j hj => h.nn _ (at0_mem hj)) hi
  rw [rsumN_at0, h.one, at0_of (List.getElem?_eq_getElem hi), e] at this
  exact this
theorem FillM.start {pl ql : List Rat} (hp : HeapOk pl) (hq : HeapOk ql) : ∃ S : Nat, 0 < S ∧ S ≤ 1000000 ∧ FillM pl.length ql.length (at0 pl) (at0 ql) S (at0 pl) (at0 ql) (fun _ _ => 0) (spotsTo ql.length pl.length) := by
  obtain ⟨S1, a1, a2, a3⟩ := hp.den
  obtain ⟨S2, b1, b2, b3⟩ := hq.den
  refine ⟨S1 * S2, Nat.mul_pos a1 b1, Nat.mul_le_mul a2 b2, fun x _ => ?_, fun y _ => ?_, fun x hx => ?_, fun y hy => ?_, fun _ _ _ _ => ?_, fun x y hx hy hn => absurd (spotsTo_mem.mpr ⟨hx, hy⟩) hn, fun _ _ => rfl, fun xy h => spotsTo_mem.mp h, spotsTo_nodup _ _⟩
  · rw [rsumN_zero fun _ _ => rfl, Rat.add_zero]
  · rw [rsumN_zero fun _ _ => rfl, Rat.add_zero]
  · have := at0_mem hx
    exact ⟨hp.nn _ this, heap_le1 hp this, Nat.dvd_trans (a3 _ this) (Nat.dvd_mul_right _ _)⟩
  · have := at0_mem hy
    exact ⟨hq.nn _ this, heap_le1 hq this, Nat.dvd_trans (b3 _ this) (Nat.dvd_mul_left _ _)⟩
  · exact ⟨Rat.le_refl, by decide, Nat.one_dvd _⟩
theorem FillAt.ext {H0 : Hp} {a : Addr} {f m k : Nat} {ph pw pp ps : Addr} {rs : List Addr} {h g : Nat → Rat} {T : Nat → Nat → Rat} {sp more : List (Nat × Nat)} {H : Hp} (F : FillAt H0 a f m k ph pw pp ps rs h g T sp H) {sv ys : List V} (e : H ps = some (.lst sv)) (hy : AllAre (fun v (xy : Nat × Nat) => IsTup2 H v (xy.1 : Int) (xy.2 : Int)) ys more) :
    FillAt H0 a f m k ph pw pp ps rs h g T (sp ++ more) (upd H ps (.lst (sv ++ ys))) := by
  obtain ⟨s, w, t⟩ := F.upd_ (o := .lst (sv ++ ys)) (by simp) e
  have d := F.dis
  simp only [List.nodup_cons, List.mem_cons, not_or] at d
  have n1 : ph ≠ ps := d.1.2.2.1
  have n2 : pw ≠ ps := d.2.1.2.1
  have n3 : pp ≠ ps := d.2.2.1.1
  refine ⟨s, w, F.new, F.dis, F.have_.ts t (upd_ne n1), F.want.ts t (upd_ne n2), by rw [upd_ne n3]; exact F.tab, F.rlen, fun x' r' hr' => (F.rows x' r' hr').ts t (upd_ne fun z => d.2.2.2.1 (z ▸ List.mem_of_getElem? hr')), ?_⟩
  obtain ⟨sv', es, as⟩ := F.spots
  rw [e] at es
  cases es
  exact ⟨_, upd_same, (as.append hy).imp fun _ _ r => r.ts t⟩
end Fb

/-! Part A14: filters of lists, suites with one end. -/
namespace Fb
open PySem PySem.Spec PyProof.Rows L2
theorem seq_fin {t u : L2.TS} {D : Ends} {σ : L2.St} {H : Hp} (M : L2.St → Hp → Prop) (h2 : ∀ σ H, M σ H → u D σ H) (h1 : (∀ σ H, M σ H → u D σ H) → t { D with nx := u D } σ H) : tSeq t u D σ H := h1 h2
/-- [e for x in xs if ..]: whether something is left -/
theorem lc_some {K : PySem.W.Frag} {a : Addr} {xs : List V} {g : TG} {tt : TT} {te : TE} {vs : List Nat} {σ : L2.St} {H1 : Hp} {D : Addr} {Qd : Hp → Prop} (t : Nat → Bool)
    (hD : H1 D = none) (hS : SqL K H1 a xs) (hz : xs.length ≤ 1000)
    (hs : ∀ (i : Nat) x H (kt : V → Hp → Prop) (kf : Hp → Prop), xs[i]? = some x → Same H1 H → (t i = true → ∀ y H4, Same H H4 → kt y H4) → (t i = false → ∀ H4, Same H H4 → kf H4) →
      g x (wipe σ vs) H fun σ2 H2 => wipe σ2 vs = wipe σ vs ∧ tt σ2 H2 fun b H3 => if b = true then te σ2 H3 kt else kf H3)
    (hd : ∀ H ys, Same H1 (hid D H) → H D = some (.lst ys) → ys.isEmpty = (List.range xs.length).all (fun i => !t i) → Qd H) :
    ∃ W : Nat → Nat → Hp → Prop, (∃ m, W 0 m (upd H1 D (.lst []))) ∧ ∀ i m H, W i m H →
      ((Itl K a).stop i H ∧ Qd H) ∨ ((Itl K a).go i H ∧ ∃ Nx : Hp → Prop, (∀ H', Nx H' → ∃ m', m' < m ∧ W (i + 1) m' H') ∧ ∀ x H', (Itl K a).yld i H x H' → g x (wipe σ vs) H' fun σ2 H2 => wipe σ2 vs = wipe σ vs ∧ tt σ2 H2 fun b H3 =>
        if b = true then te σ2 H3 fun y H4 => ∃ acc, H4 D = some (.lst acc) ∧ acc.length < sizeLine ∧ Nx (upd H4 D (.lst (acc ++ [y]))) else Nx H3) := by
  have ra : ∀ i, (List.range (i + 1)).all (fun i => !t i) = ((List.range i).all (fun i => !t i) && !t i) := fun i => by
    rw [List.range_succ, List.all_append]
    simp
  refine lc_list (xs := xs) (fun i H => ∃ ys, Same H1 (hid D H) ∧ H D = some (.lst ys) ∧ ys.length ≤ i ∧ ys.isEmpty = (List.range i).all (fun i => !t i)) ⟨[], ?_, upd_same, Nat.zero_le _, rfl⟩ (fun i H _ h => ?_) (fun i x H hx h => ?_) (fun H h => ?_)
  · intro b o e
    rw [hid_ne (ne_of_none e hD), upd_ne (ne_of_none e hD)]
    exact e
  · obtain ⟨ys, s, _⟩ := h
    exact (s.trans hid_same).seq hS
  · obtain ⟨ys, s, e, l, r⟩ := h
    have hi : i < xs.length := (List.getElem?_eq_some_iff.mp hx).1
    refine hs i x H (fun y H4 => ∃ acc, H4 D = some (.lst acc) ∧ acc.length < sizeLine ∧ ∃ ys, Same H1 (hid D (upd H4 D (.lst (acc ++ [y])))) ∧ (upd H4 D (.lst (acc ++ [y]))) D = some (.lst ys) ∧ ys.length ≤ i + 1 ∧ ys.isEmpty = (List.range (i + 1)).all (fun i => !t i)) _ hx (s.trans hid_same) (fun ht y H4 s4 => ?_) (fun ht H4 s4 => ?_)
    · refine ⟨ys, s4 _ _ e, small1000 (by omega), ys ++ [y], ?_, upd_same, by simp; omega, ?_⟩
      · rw [hid_upd]
        exact s.trans (hid_mono s4)
      · rw [ra, ht]
        simp
    · refine ⟨ys, s.trans (hid_mono s4), s4 _ _ e, by omega, ?_⟩
      rw [ra, ht, r]
      simp
  · obtain ⟨ys, s, e, l, r⟩ := h
    exact hd H ys s e r
end Fb

/-! Part A15: comprehensions over any walk, of one and of two clauses; sums of products. -/
namespace Fb
open PySem PySem.Spec PyProof.Rows L2
section
variable {X : Cx} {K : PySem.W.Frag}
theorem pi_enumK {e : Expr} {ta : TA} {p pos tpos : Pos} {elts : List Expr} {kk : Nat} (hK : X.K = K) (hg : Gl X "enumerate") (hm : X.mg "enumerate" = none) (ha : PA X [e] ta) (hs : starEach [e] X.env = [(false, eval e X.env)] := by rfl) :
    PI X (.Tuple elts kk tpos) (.Call (.Name "enumerate" p) [e] [] pos) (iEnum K ta) := hK ▸ pi_enum hg hm ha hs
theorem pi_zipK {e e2 : Expr} {ta : TA} {p pos tpos : Pos} {elts : List Expr} {kk : Nat} (hK : X.K = K) (hg : Gl X "zip") (hm : X.mg "zip" = none) (ha : PA X [e, e2] ta)
    (hs : starEach [e, e2] X.env = (false, eval e X.env) :: starEach [e2] X.env := by rfl) (hpl : (backTo pos (starEach [e2] X.env)).any (·.1) = false := by rfl) :
    PI X (.Tuple elts kk tpos) (.Call (.Name "zip" p) [e, e2] [] pos) (iZip K ta) := hK ▸ pi_zip hg hm ha hs hpl
theorem pi_tupK {tg l : Expr} {tl : TE} (hK : X.K = K) (hl : PE X l tl) : PI X tg l (iTup K tl) := hK ▸ pi_tup hl
end
section
variable {J : It} {n : Nat} {G : Hp → Prop} {Y : Nat → Hp → V → Hp → Prop}
/-- [e for .. in ..] that only makes, over any walk -/
theorem lc_allW (w : Walk J n G Y) {g : TG} {te : TE} {vs : List Nat} {σ : L2.St} {H1 : Hp} {D : Addr} {Qd : Hp → Prop} (R : Nat → V → Hp → Prop) (mono : ∀ i v H H', Same H H' → R i v H → R i v H')
    (hD : H1 D = none) (hS : ∀ H, Same H1 H → G H) (hz : n ≤ 1000)
    (hs : ∀ i x H H' (k : V → Hp → Prop), i < n → Same H1 (hid D H) → (∃ ys, H D = some (.lst ys)) → Y i H x H' → (∀ y H4, Same H H4 → R i y (hid D H4) → k y H4) → g x (wipe σ vs) H' fun σ2 H2 => wipe σ2 vs = wipe σ vs ∧ te σ2 H2 k)
    (hd : ∀ H ys, Same H1 (hid D H) → H D = some (.lst ys) → ys.length = n → (∀ i y, ys[i]? = some y → R i y (hid D H)) → Qd H) :
    ∃ W : Nat → Nat → Hp → Prop, (∃ m, W 0 m (upd H1 D (.lst []))) ∧ ∀ i m H, W i m H →
      (J.stop i H ∧ Qd H) ∨ (J.go i H ∧ ∃ Nx : Hp → Prop, (∀ H', Nx H' → ∃ m', m' < m ∧ W (i + 1) m' H') ∧ ∀ x H', J.yld i H x H' → g x (wipe σ vs) H' fun σ2 H2 => wipe σ2 vs = wipe σ vs ∧ tYes σ2 H2 fun b H3 =>
        if b = true then te σ2 H3 fun y H4 => ∃ acc, H4 D = some (.lst acc) ∧ acc.length < sizeLine ∧ Nx (upd H4 D (.lst (acc ++ [y]))) else Nx H3) := by
  refine lc_it w (fun i H => ∃ ys, Same H1 (hid D H) ∧ H D = some (.lst ys) ∧ ys.length = i ∧ ∀ j y, ys[j]? = some y → R j y (hid D H)) ⟨[], ?_, upd_same, rfl, fun j y h => by simp at h⟩ (fun i H _ h => ?_) (fun i x H H' hi h y => ?_) (fun H h => ?_)
  · intro b o e
    rw [hid_ne (ne_of_none e hD), upd_ne (ne_of_none e hD)]
    exact e
  · obtain ⟨ys, s, _⟩ := h
    exact hS H (s.trans hid_same)
  · obtain ⟨ys, s, e, l, r⟩ := h
    refine hs i x H H' (fun y H4 => ∃ acc, H4 D = some (.lst acc) ∧ acc.length < sizeLine ∧ ∃ ys, Same H1 (hid D (upd H4 D (.lst (acc ++ [y])))) ∧ (upd H4 D (.lst (acc ++ [y]))) D = some (.lst ys) ∧ ys.length = i + 1 ∧ ∀ j y', ys[j]? = some y' → R j y' (hid D (upd H4 D (.lst (acc ++ [y]))))) hi s ⟨_, e⟩ y fun y H4 s4 ry => ?_
    refine ⟨ys, s4 _ _ e, small1000 (by omega), ys ++ [y], ?_, upd_same, by simp [l], fun j y' h => ?_⟩
    · rw [hid_upd]
      exact s.trans (hid_mono s4)
    · rw [hid_upd]
      by_cases hj : j < ys.length
      · rw [List.getElem?_append_left hj] at h
        exact mono _ _ _ _ (hid_mono s4) (r j y' h)
      · rw [List.getElem?_append_right (by omega)] at h
        have hj2 : j - ys.length = 0 := by
          have := (List.getElem?_eq_some_iff.mp h).1
          simp at this
          omega
        rw [hj2] at h
        simp at h
        subst h
        have : j = i := by omega
        rw [this]
        exact ry
  · obtain ⟨ys, s, e, l, r⟩ := h
    exact hd H ys s e l r
/-- [e for .. in .. if ..] over any walk: whether something is left -/
theorem lc_someW (w : Walk J n G Y) {g : TG} {tt : TT} {te : TE} {vs : List Nat} {σ : L2.St} {H1 : Hp} {D : Addr} {Qd : Hp → Prop} (t : Nat → Bool)
    (hD : H1 D = none) (hS : ∀ H, Same H1 H → G H) (hz : n ≤ 1000)
    (hs : ∀ (i : Nat) x H H' (kt : V → Hp → Prop) (kf : Hp → Prop), i < n → Same H1 H → Y i H x H' → (t i = true → ∀ y H4, Same H H4 → kt y H4) → (t i = false → ∀ H4, Same H H4 → kf H4) →
      g x (wipe σ vs) H' fun σ2 H2 => wipe σ2 vs = wipe σ vs ∧ tt σ2 H2 fun b H3 => if b = true then te σ2 H3 kt else kf H3)
    (hd : ∀ H ys, Same H1 (hid D H) → H D = some (.lst ys) → ys.isEmpty = (List.range n).all (fun i => !t i) → Qd H) :
    ∃ W : Nat → Nat → Hp → Prop, (∃ m, W 0 m (upd H1 D (.lst []))) ∧ ∀ i m H, W i m H →
      (J.stop i H ∧ Qd H) ∨ (J.go i H ∧ ∃ Nx : Hp → Prop, (∀ H', Nx H' → ∃ m', m' < m ∧ W (i + 1) m' H') ∧ ∀ x H', J.yld i H x H' → g x (wipe σ vs) H' fun σ2 H2 => wipe σ2 vs = wipe σ vs ∧ tt σ2 H2 fun b H3 =>
        if b = true then te σ2 H3 fun y H4 => ∃ acc, H4 D = some (.lst acc) ∧ acc.length < sizeLine ∧ Nx (upd H4 D (.lst (acc ++ [y]))) else Nx H3) := by
  have ra : ∀ i, (List.range (i + 1)).all (fun i => !t i) = ((List.range i).all (fun i => !t i) && !t i) := fun i => by
    rw [List.range_succ, List.all_append]
    simp
  refine lc_it w (fun i H => ∃ ys, Same H1 (hid D H) ∧ H D = some (.lst ys) ∧ ys.length ≤ i ∧ ys.isEmpty = (List.range i).all (fun i => !t i)) ⟨[], ?_, upd_same, Nat.zero_le _, rfl⟩ (fun i H _ h => ?_) (fun i x H H' hi h y => ?_) (fun H h => ?_)
  · intro b o e
    rw [hid_ne (ne_of_none e hD), upd_ne (ne_of_none e hD)]
    exact e
  · obtain ⟨ys, s, _⟩ := h
    exact hS H (s.trans hid_same)
  · obtain ⟨ys, s, e, l, r⟩ := h
    refine hs i x H H' (fun y H4 => ∃ acc, H4 D = some (.lst acc) ∧ acc.length < sizeLine ∧ ∃ ys, Same H1 (hid D (upd H4 D (.lst (acc ++ [y])))) ∧ (upd H4 D (.lst (acc ++ [y]))) D = some (.lst ys) ∧ ys.length ≤ i + 1 ∧ ys.isEmpty = (List.range (i + 1)).all (fun i => !t i)) _ hi (s.trans hid_same) y (fun ht y H4 s4 => ?_) (fun ht H4 s4 => ?_)
    · refine ⟨ys, s4 _ _ e, small1000 (by omega), ys ++ [y], ?_, upd_same, by simp; omega, ?_⟩
      · rw [hid_upd]
        exact s.trans (hid_mono s4)
      · rw [ra, ht]
        simp
    · refine ⟨ys, s.trans (hid_mono s4), s4 _ _ e, by omega, ?_⟩
      rw [ra, ht, r]
      simp
  · obtain ⟨ys, s, e, l, r⟩ := h
    exact hd H ys s e r
/-- the second clause's own loop -/
theorem lc_inner (w : Walk J n G Y) {g1 : TG} {tt1 : TT} {te : TE} {vs1 : List Nat} {σ2 : L2.St} {H4 : Hp} {D : Addr} {Nx : Hp → Prop} (Pv : Nat → Hp → Prop) (h0 : Pv 0 H4) (hG : ∀ j H, j ≤ n → Pv j H → G H)
    (hs : ∀ j x H H', j < n → Pv j H → Y j H x H' → g1 x (wipe σ2 vs1) H' fun σ3 H5 => wipe σ3 vs1 = wipe σ2 vs1 ∧ tt1 σ3 H5 fun b H6 =>
      if b = true then te σ3 H6 fun y H7 => ∃ acc, H7 D = some (.lst acc) ∧ acc.length < sizeLine ∧ Pv (j + 1) (upd H7 D (.lst (acc ++ [y]))) else Pv (j + 1) H6) (hd : ∀ H, Pv n H → Nx H) :
    ∃ W1 : Nat → Nat → Hp → Prop, (∃ m, W1 0 m H4) ∧ ∀ j k H, W1 j k H →
      (J.stop j H ∧ Nx H) ∨ (J.go j H ∧ ∃ Nx1 : Hp → Prop, (∀ H', Nx1 H' → ∃ k', k' < k ∧ W1 (j + 1) k' H') ∧ ∀ x H', J.yld j H x H' → g1 x (wipe σ2 vs1) H' fun σ3 H5 => wipe σ3 vs1 = wipe σ2 vs1 ∧ tt1 σ3 H5 fun b H6 =>
        if b = true then te σ3 H6 fun y H7 => ∃ acc, H7 D = some (.lst acc) ∧ acc.length < sizeLine ∧ Nx1 (upd H7 D (.lst (acc ++ [y]))) else Nx1 H6) := by
  refine ⟨fun i m H => m = n - i ∧ i ≤ n ∧ Pv i H, ⟨n, by simp, Nat.zero_le _, h0⟩, ?_⟩
  rintro i m H ⟨rfl, hi, p⟩
  have q := hG i H hi p
  by_cases hlt : i < n
  · exact .inr ⟨w.goes i H hlt q, Pv (i + 1), fun H' p' => ⟨n - (i + 1), by omega, rfl, hlt, p'⟩, fun x H' y => hs i x H H' hlt p (w.yields i H x H' hlt q y)⟩
  · have e : i = n := by omega
    subst e
    exact .inl ⟨w.stops H q, hd H p⟩
/-- the items of one turn of the first clause -/
def Block (R : Nat → V → Hp → Prop) (m : Nat) (b : List V) (H : Hp) : Prop := b.length = m ∧ ∀ (j : Nat) y, b[j]? = some y → R j y H
theorem Block.mono {R : Nat → V → Hp → Prop} {m : Nat} {b : List V} {H H' : Hp} (mono : ∀ j v H H', Same H H' → R j v H → R j v H') (s : Same H H') (h : Block R m b H) : Block R m b H' := ⟨h.1, fun j y hy => mono j y H H' s (h.2 j y hy)⟩
/-- what the second clause's source is, seen from the i-th turn of the first -/
def InC (m : Nat) (R : Nat → V → Hp → Prop) (g1 : TG) (te : TE) (vs1 : List Nat) (D : Addr) (H : Hp) (σ2 : L2.St) (J1 : It) (H4 : Hp) : Prop :=
  Same H H4 ∧ ∃ (G1 : Hp → Prop) (Y1 : Nat → Hp → V → Hp → Prop), Walk J1 m G1 Y1 ∧ (∀ H5, Same (hid D H4) (hid D H5) → (∃ ys, H5 D = some (.lst ys)) → G1 H5) ∧
    ∀ j x1 H5 H6 (k : V → Hp → Prop), j < m → Same (hid D H4) (hid D H5) → (∃ ys, H5 D = some (.lst ys)) → Y1 j H5 x1 H6 → (∀ y H7, Same H5 H7 → R j y (hid D H7) → k y H7) →
      g1 x1 (wipe σ2 vs1) H6 fun σ3 H8 => wipe σ3 vs1 = wipe σ2 vs1 ∧ te σ3 H8 k
theorem lc2_all (w : Walk J n G Y) {g g1 : TG} {wi1 : TI} {te : TE} {vs vs1 : List Nat} {σ : L2.St} {H1 : Hp} {D : Addr} {Qd : Hp → Prop} (m : Nat → Nat) (R : Nat → Nat → V → Hp → Prop) (mono : ∀ i j v H H', Same H H' → R i j v H → R i j v H')
    (M : Nat) (hm : ∀ i, i < n → m i ≤ M) (hnM : n * M ≤ 999) (hD : H1 D = none) (hS : ∀ H, Same H1 H → G H)
    (hs : ∀ i x H H' (kk : L2.St → It → Hp → Prop), i < n → Same H1 (hid D H) → (∃ ys, H D = some (.lst ys)) → Y i H x H' → (∀ σ2 J1 H4, InC (m i) (R i) g1 te vs1 D H σ2 J1 H4 → kk σ2 J1 H4) →
      g x (wipe σ vs) H' fun σ2 H2 => wipe σ2 vs = wipe σ vs ∧ wi1 σ2 H2 (kk σ2))
    (hd : ∀ H (bs : List (List V)), Same H1 (hid D H) → H D = some (.lst bs.flatten) → bs.length = n → (∀ (i : Nat) b, bs[i]? = some b → Block (R i) (m i) b (hid D H)) → Qd H) :
    ∃ W : Nat → Nat → Hp → Prop, (∃ m, W 0 m (upd H1 D (.lst []))) ∧ ∀ i m H, W i m H →
      (J.stop i H ∧ Qd H) ∨ (J.go i H ∧ ∃ Nx : Hp → Prop, (∀ H', Nx H' → ∃ m', m' < m ∧ W (i + 1) m' H') ∧ ∀ x H', J.yld i H x H' → g x (wipe σ vs) H' fun σ2 H2 => wipe σ2 vs = wipe σ vs ∧ tYes σ2 H2 fun b H3 =>
        if b = true then wi1 σ2 H3 fun J1 H4 => ∃ W1 : Nat → Nat → Hp → Prop, (∃ m, W1 0 m H4) ∧ ∀ j k H, W1 j k H →
          (J1.stop j H ∧ Nx H) ∨ (J1.go j H ∧ ∃ Nx1 : Hp → Prop, (∀ H', Nx1 H' → ∃ k', k' < k ∧ W1 (j + 1) k' H') ∧ ∀ x H', J1.yld j H x H' → g1 x (wipe σ2 vs1) H' fun σ3 H5 => wipe σ3 vs1 = wipe σ2 vs1 ∧ tYes σ3 H5 fun b H6 =>
            if b = true then te σ3 H6 fun y H7 => ∃ acc, H7 D = some (.lst acc) ∧ acc.length < sizeLine ∧ Nx1 (upd H7 D (.lst (acc ++ [y]))) else Nx1 H6)
        else Nx H3) := by
  have fl : ∀ (bs : List (List V)), (∀ (i : Nat) b, bs[i]? = some b → b.length ≤ M) → bs.flatten.length ≤ bs.length * M := fun bs => by
    induction bs with
    | nil => intro _; simp
    | cons b r ih =>
      intro h
      have h1 := h 0 b rfl
      have h2 := ih fun i b hb => h (i + 1) b hb
      rw [List.flatten_cons, List.length_append, List.length_cons, Nat.succ_mul]
      omega
  let Pv : Nat → Hp → Prop := fun i H => ∃ bs : List (List V), Same H1 (hid D H) ∧ H D = some (.lst bs.flatten) ∧ bs.length = i ∧ ∀ (i : Nat) b, bs[i]? = some b → Block (R i) (m i) b (hid D H)
  refine ⟨fun i m H => m = n - i ∧ i ≤ n ∧ Pv i H, ⟨n, by simp, Nat.zero_le _, [], ?_, upd_same, rfl, fun i b h => by simp at h⟩, ?_⟩
  · intro b o e
    rw [hid_ne (ne_of_none e hD), upd_ne (ne_of_none e hD)]
    exact e
  rintro i mm H ⟨rfl, hi, p⟩
  obtain ⟨bs, s, e, l, r⟩ := id p
  have q := hS H (s.trans hid_same)
  by_cases hlt : i < n
  · refine .inr ⟨w.goes i H hlt q, Pv (i + 1), fun H' p' => ⟨n - (i + 1), by omega, rfl, hlt, p'⟩, fun x H' y => ?_⟩
    refine hs i x H H' _ hlt s ⟨_, e⟩ (w.yields i H x H' hlt q y) fun σ2 J1 H4 inc => ?_
    obtain ⟨s4, G1, Y1, w1, hG1, hs1⟩ := inc
    have e4 := s4 _ _ e
    refine lc_inner w1 (fun j H5 => ∃ b : List V, Same (hid D H4) (hid D H5) ∧ H5 D = some (.lst (bs.flatten ++ b)) ∧ Block (R i) j b (hid D H5)) ⟨[], Same.refl _, by rw [List.append_nil]; exact e4, rfl, fun j y h => by simp at h⟩ (fun j H5 _ h => ?_) (fun j x1 H5 H6 hj h y1 => ?_) (fun H5 h => ?_)
    · obtain ⟨b, s5, e5, _⟩ := h
      exact hG1 H5 s5 ⟨_, e5⟩
    · obtain ⟨b, s5, e5, b5⟩ := h
      refine hs1 j x1 H5 H6 _ hj s5 ⟨_, e5⟩ y1 fun y H7 s7 ry => ?_
      refine ⟨_, s7 _ _ e5, small1000 ?_, b ++ [y], ?_, ?_, ?_⟩
      · have h1 := fl bs fun i b hb => by
          have hi' : i < n := by
            have := (List.getElem?_eq_some_iff.mp hb).1
            omega
          rw [(r i b hb).1]
          exact hm i hi'
        have h2 : b.length < M := by
          have := hm i hlt
          rw [b5.1]
          omega
        have h3 : (i + 1) * M ≤ n * M := Nat.mul_le_mul_right _ hlt
        rw [Nat.succ_mul] at h3
        rw [List.length_append]
        rw [l] at h1
        omega
      · rw [hid_upd]
        exact s5.trans (hid_mono s7)
      · rw [upd_same, List.append_assoc]
      · rw [hid_upd]
        refine ⟨by rw [List.length_append, b5.1]; rfl, fun j' y' h => ?_⟩
        by_cases hj' : j' < b.length
        · rw [List.getElem?_append_left hj'] at h
          exact mono _ _ _ _ _ (hid_mono s7) (b5.2 j' y' h)
        · rw [List.getElem?_append_right (by omega)] at h
          have hj2 : j' - b.length = 0 := by
            have := (List.getElem?_eq_some_iff.mp h).1
            simp at this
            omega
          rw [hj2] at h
          simp at h
          subst h
          have hb := b5.1
          have : j' = j := by omega
          rw [this]
          exact ry
    · obtain ⟨b, s5, e5, b5⟩ := h
      refine ⟨bs ++ [b], s.trans ((hid_mono s4).trans s5), by rw [e5]; simp, by simp [l], fun i' b' h => ?_⟩
      by_cases hi' : i' < bs.length
      · rw [List.getElem?_append_left hi'] at h
        exact (r i' b' h).mono (mono i') ((hid_mono s4).trans s5)
      · rw [List.getElem?_append_right (by omega)] at h
        have hj2 : i' - bs.length = 0 := by
          have := (List.getElem?_eq_some_iff.mp h).1
          simp at this
          omega
        rw [hj2] at h
        simp at h
        subst h
        have : i' = i := by omega
        rw [this]
        exact b5
  · have e' : i = n := by omega
    subst e'
    exact .inl ⟨w.stops H q, hd H bs s e l r⟩
end
/-! ### slots that a comprehension sets are wiped -/
theorem wipe_in {σ : L2.St} {i : Nat} : ∀ {vs : List Nat}, i ∈ vs → (wipe σ vs)[i]? = if i < σ.length then some none else none
  | v :: vs, h => by
    unfold wipe
    rw [List.getElem?_set, wipe_length]
    by_cases e : v = i
    · subst e
      rw [if_pos rfl]
    · rw [if_neg e]
      exact wipe_in ((List.mem_cons.mp h).resolve_left fun z => e z.symm)
theorem wipe_eq {σ σ' : L2.St} {vs : List Nat} (hl : σ'.length = σ.length) (h : ∀ i, i ∉ vs → σ'[i]? = σ[i]?) : wipe σ' vs = wipe σ vs := by
  refine List.ext_getElem? fun i => ?_
  by_cases hi : i ∈ vs
  · rw [wipe_in hi, wipe_in hi, hl]
  · rw [wipe_out hi, wipe_out hi, h i hi]
theorem wipe1 {σ : L2.St} {vs : List Nat} {i : Nat} {x : Option V} (hi : i ∈ vs) : wipe ((wipe σ vs).set i x) vs = wipe σ vs := by
  refine wipe_eq (by rw [List.length_set, wipe_length]) fun j hj => ?_
  have n1 : i ≠ j := fun e => hj (e ▸ hi)
  rw [List.getElem?_set_ne n1, wipe_out hj]
theorem wipe2 {σ : L2.St} {vs : List Nat} {i j : Nat} {x y : Option V} (hi : i ∈ vs) (hj : j ∈ vs) : wipe (((wipe σ vs).set i x).set j y) vs = wipe σ vs := by
  refine wipe_eq (by rw [List.length_set, List.length_set, wipe_length]) fun l hl => ?_
  have n1 : i ≠ l := fun e => hl (e ▸ hi)
  have n2 : j ≠ l := fun e => hl (e ▸ hj)
  rw [List.getElem?_set_ne n2, List.getElem?_set_ne n1, wipe_out hl]
theorem look_out {σ : L2.St} {vs : List Nat} {i j l : Nat} {x y o : Option V} (h : σ[l]? = some o) (hl : l ∉ vs) (n1 : i ≠ l) (n2 : j ≠ l) : (((wipe σ vs).set i x).set j y)[l]? = some o := by
  rw [List.getElem?_set_ne n2, List.getElem?_set_ne n1, wipe_out hl, h]
theorem look_1 {σ : L2.St} {vs : List Nat} {i j : Nat} {x y : Option V} (hl : i < σ.length) (n : j ≠ i) : (((wipe σ vs).set i x).set j y)[i]? = some x := by
  rw [List.getElem?_set_ne n, List.getElem?_set_self (by rw [wipe_length]; exact hl)]
theorem look_2 {σ : L2.St} {vs : List Nat} {i j : Nat} {x y : Option V} (hl : j < σ.length) : (((wipe σ vs).set i x).set j y)[j]? = some y := by
  rw [List.getElem?_set_self (by rw [List.length_set, wipe_length]; exact hl)]
theorem look_len {σ : L2.St} {vs : List Nat} {i j n : Nat} {x y : Option V} (hl : σ.length = n) : (((wipe σ vs).set i x).set j y).length = n := by
  rw [List.length_set, List.length_set, wipe_length, hl]
/-- rows put one behind the other -/
theorem AllAre.flatten {α : Type} {R : V → α → Prop} : ∀ {bs : List (List V)} {xss : List (List α)}, bs.length = xss.length → (∀ (i : Nat) b xs, bs[i]? = some b → xss[i]? = some xs → AllAre R b xs) → AllAre R bs.flatten xss.flatten
  | [], [], _, _ => .nil
  | b :: bs, xs :: xss, l, h => by
    rw [List.flatten_cons, List.flatten_cons]
    exact (h 0 b xs rfl rfl).append (AllAre.flatten (by simpa using l) fun i b xs h1 h2 => h (i + 1) b xs h1 h2)
  | [], _ :: _, l, _ => by simp at l
  | _ :: _, [], l, _ => by simp at l
/-! ### sums of products -/
def dot (qs rs : List Rat) : Rat := rsum (List.zipWith (· * ·) qs rs)
theorem tops_dot {U G : Nat} (hU : 0 < U) (hG : 0 < G) : ∀ (qs rs : List Rat), (∀ q ∈ qs, q.den ∣ U) → (∀ r ∈ rs, r.den ∣ G) →
    Rat.divInt (List.zipWith (· * ·) (topsOf U qs) (topsOf G rs)).sum ((U : Int) * (G : Int)) = dot qs rs
  | [], _, _, _ => by simp [topsOf, dot, rsum]
  | _ :: _, [], _, _ => by simp [topsOf, dot, rsum]
  | q :: qs, r :: rs, h1, h2 => by
    have ih := tops_dot hU hG qs rs (fun x hx => h1 x (List.mem_cons_of_mem _ hx)) fun x hx => h2 x (List.mem_cons_of_mem _ hx)
    have t1 := tops_one hU (h1 q List.mem_cons_self)
    have t2 := tops_one hG (h2 r List.mem_cons_self)
    show Rat.divInt ((q.num * ((U / q.den : Nat) : Int)) * (r.num * ((G / r.den : Nat) : Int)) + (List.zipWith (· * ·) (topsOf U qs) (topsOf G rs)).sum) ((U : Int) * (G : Int)) = q * r + dot qs rs
    rw [divInt_add_same, ih, ← Rat.divInt_mul_divInt, t1, t2]
theorem den_add {a b : Rat} {S : Nat} (h0 : 0 < S) (ha : a.den ∣ S) (hb : b.den ∣ S) : (a + b).den ∣ S := by
  have e : a + b = Rat.divInt (a.num * ((S / a.den : Nat) : Int) + b.num * ((S / b.den : Nat) : Int)) (S : Int) := by
    rw [divInt_add_same, tops_one h0 ha, tops_one h0 hb]
  rw [e]
  exact den_dvd_bot h0
end Fb

/-! Part A16: fractions over a common bottom that are not great; sums of products of pairs. -/
namespace Fb
open PySem PySem.Spec PyProof.Rows L2
structure Nice (S M : Nat) (q : Rat) : Prop where
  den : q.den ∣ S
  abs : q.num.natAbs ≤ M * q.den
theorem Nice.mono {S S' M M' : Nat} {q : Rat} (h : Nice S M q) (d : S ∣ S') (l : M ≤ M') : Nice S' M' q := ⟨Nat.dvd_trans h.den d, Nat.le_trans h.abs (Nat.mul_le_mul_right _ l)⟩
theorem Nice.bd {S M n : Nat} {q : Rat} (h : Nice S M q) (S0 : 0 < S) (h1 : S < 2 ^ n) (h2 : M * S < 2 ^ n) : Bd n q := by
  have l := Nat.le_of_dvd S0 h.den
  exact ⟨Nat.lt_of_le_of_lt (Nat.le_trans h.abs (Nat.mul_le_mul_left _ l)) h2, Nat.lt_of_le_of_lt l h1⟩
theorem divInt_cross {t b : Int} {q : Rat} (hb : b ≠ 0) (h : Rat.divInt t b = q) : q.num * b = t * (q.den : Int) := by
  have e : Rat.divInt q.num (q.den : Int) = Rat.divInt t b := by rw [divInt_self, h]
  exact (Rat.divInt_eq_divInt_iff (den_ne q) hb).mp e
theorem Nice.of {t : Int} {b S M : Nat} (hb : 0 < b) (d : b ∣ S) (h : t.natAbs ≤ M * b) : Nice S M (Rat.divInt t (b : Int)) := by
  refine ⟨Nat.dvd_trans (den_dvd_bot hb) d, ?_⟩
  have e := divInt_cross (t := t) (b := (b : Int)) (by omega) rfl
  generalize Rat.divInt t (b : Int) = q at e
  have e2 := congrArg Int.natAbs e
  rw [Int.natAbs_mul, Int.natAbs_mul, Int.natAbs_natCast, Int.natAbs_natCast] at e2
  have h3 : q.num.natAbs * b ≤ (M * q.den) * b := by
    rw [e2, Nat.mul_right_comm]
    exact Nat.mul_le_mul_right _ h
  exact Nat.le_of_mul_le_mul_right h3 hb
theorem Nice.add {S M N : Nat} {x y : Rat} (S0 : 0 < S) (hx : Nice S M x) (hy : Nice S N y) : Nice S (M + N) (x + y) := by
  refine ⟨den_add S0 hx.den hy.den, ?_⟩
  have e := divInt_cross (dens_ne x y) (rat_add x y)
  generalize x + y = q at e
  have e2 := congrArg Int.natAbs e
  rw [Int.natAbs_mul, Int.natAbs_mul, Int.natAbs_mul, Int.natAbs_natCast, Int.natAbs_natCast, Int.natAbs_natCast] at e2
  have h1 : (x.num * (y.den : Int) + y.num * (x.den : Int)).natAbs ≤ (M + N) * (x.den * y.den) := by
    refine Nat.le_trans (Int.natAbs_add_le _ _) ?_
    rw [Int.natAbs_mul, Int.natAbs_mul, Int.natAbs_natCast, Int.natAbs_natCast, Nat.add_mul]
    refine Nat.add_le_add ?_ ?_
    · rw [← Nat.mul_assoc]
      exact Nat.mul_le_mul_right _ hx.abs
    · rw [Nat.mul_comm x.den, ← Nat.mul_assoc]
      exact Nat.mul_le_mul_right _ hy.abs
  have h3 : q.num.natAbs * (x.den * y.den) ≤ ((M + N) * q.den) * (x.den * y.den) := by
    rw [e2, Nat.mul_right_comm]
    exact Nat.mul_le_mul_right _ h1
  exact Nat.le_of_mul_le_mul_right h3 (Nat.mul_pos x.den_pos y.den_pos)
theorem Nice.neg {S M : Nat} {x : Rat} (h : Nice S M x) : Nice S M (-x) := by
  refine ⟨by rw [Rat.neg_den]; exact h.den, ?_⟩
  rw [Rat.neg_num, Rat.neg_den, Int.natAbs_neg]
  exact h.abs
theorem Nice.sub {S M N : Nat} {x y : Rat} (S0 : 0 < S) (hx : Nice S M x) (hy : Nice S N y) : Nice S (M + N) (x - y) := by
  rw [Rat.sub_eq_add_neg]
  exact hx.add S0 hy.neg
theorem Nice.mul {S T M N : Nat} {x y : Rat} (hx : Nice S M x) (hy : Nice T N y) : Nice (S * T) (M * N) (x * y) := by
  have e := divInt_cross (dens_ne x y) (rat_mul x y)
  have dd : (x * y).den ∣ x.den * y.den := by
    rw [← rat_mul, ← Int.natCast_mul]
    exact den_dvd_bot (Nat.mul_pos x.den_pos y.den_pos)
  refine ⟨Nat.dvd_trans dd (Nat.mul_dvd_mul hx.den hy.den), ?_⟩
  generalize x * y = q at e
  have e2 := congrArg Int.natAbs e
  rw [Int.natAbs_mul, Int.natAbs_mul, Int.natAbs_mul, Int.natAbs_mul, Int.natAbs_natCast, Int.natAbs_natCast, Int.natAbs_natCast] at e2
  have h3 : q.num.natAbs * (x.den * y.den) ≤ ((M * N) * q.den) * (x.den * y.den) := by
    rw [e2]
    have := Nat.mul_le_mul hx.abs hy.abs
    calc x.num.natAbs * y.num.natAbs * q.den ≤ (M * x.den) * (N * y.den) * q.den := Nat.mul_le_mul_right _ this
      _ = M * N * q.den * (x.den * y.den) := by
        simp only [Nat.mul_comm, Nat.mul_assoc, Nat.mul_left_comm]
  exact Nat.le_of_mul_le_mul_right h3 (Nat.mul_pos x.den_pos y.den_pos)
theorem Nice.zero {S : Nat} : Nice S 0 0 := ⟨Nat.one_dvd _, by decide⟩
theorem Nice.rsum {S M : Nat} (S0 : 0 < S) : ∀ {qs : List Rat}, (∀ q ∈ qs, Nice S M q) → Nice S (M * qs.length) (Fb.rsum qs)
  | [], _ => by
    rw [List.length_nil, Nat.mul_zero]
    exact Nice.zero
  | q :: r, h => by
    have h1 := (h q List.mem_cons_self).add S0 (Nice.rsum S0 (qs := r) fun x hx => h x (List.mem_cons_of_mem _ hx))
    rw [List.length_cons, Nat.mul_succ, Nat.add_comm]
    exact h1
theorem mem_zip {qs rs : List Rat} {z : Rat} (h : z ∈ List.zipWith (· * ·) qs rs) : ∃ q ∈ qs, ∃ r ∈ rs, z = q * r := by
  obtain ⟨i, hi, e⟩ := List.mem_iff_getElem.mp h
  rw [List.getElem_zipWith] at e
  exact ⟨_, List.getElem_mem _, _, List.getElem_mem _, e.symm⟩
/-- row by row is the same as all in one -/
theorem dot_rows : ∀ {css pss : List (List Rat)}, css.length = pss.length → (∀ (i : Nat) c p, css[i]? = some c → pss[i]? = some p → c.length = p.length) → dot css.flatten pss.flatten = rsum (List.zipWith dot css pss)
  | [], [], _, _ => rfl
  | c :: css, p :: pss, l, h => by
    have ih := dot_rows (css := css) (pss := pss) (by simpa using l) fun i c p h1 h2 => h (i + 1) c p h1 h2
    have h0 : c.length = p.length := h 0 c p rfl rfl
    show dot (c ++ css.flatten) (p ++ pss.flatten) = dot c p + rsum (List.zipWith dot css pss)
    rw [← ih]
    unfold dot
    rw [List.zipWith_append h0, rsum_append]
  | [], _ :: _, l, _ => by simp at l
  | _ :: _, [], l, _ => by simp at l
theorem lcm_len {qs : List Rat} {n N a : Nat} (h : ∀ q ∈ qs, q.den < 2 ^ n) (l : qs.length ≤ N) (ha : 1 + n * N ≤ a) : lcmOn 1 qs < 2 ^ a := by
  have h1 := lcmOn_lt qs 1 n 1 h (by decide)
  refine Nat.lt_of_lt_of_le h1 (Nat.pow_le_pow_right (by decide) ?_)
  have := Nat.mul_le_mul_left n l
  omega
theorem flat_len {l : List (List Rat)} {k : Nat} (h : ∀ qs ∈ l, qs.length ≤ k) : l.flatten.length ≤ l.length * k := by
  induction l with
  | nil => simp
  | cons b r ih =>
    have h1 := h b List.mem_cons_self
    have h2 := ih fun q hq => h q (List.mem_cons_of_mem _ hq)
    rw [List.flatten_cons, List.length_append, List.length_cons, Nat.succ_mul]
    omega
theorem mem_rows {l : List (List Rat)} {q : Rat} (h : q ∈ l.flatten) : ∃ r ∈ l, q ∈ r := List.mem_flatten.mp h
/-- [e for .. in ..] over any walk, each turn at most c draws -/
theorem lc_wellW {J : It} {n : Nat} {G : Hp → Prop} {Y : Nat → Hp → V → Hp → Prop} (w : Walk J n G Y) {g : TG} {te : TE} {vs : List Nat} {σ : L2.St} {H1 : Hp} {D a : Addr} {Qd : Hp → Prop} (R : V → Hp → Prop) (mono : ∀ v H H', Same H H' → R v H → R v H') (c f : Nat)
    (hD : H1 D = none) (hw : WellAt H1 a (f + c * n)) (hn : n ≤ 1000) (hS : ∀ H, Same (hid a H1) (hid a H) → G H)
    (hs : ∀ i x H H' m (k : V → Hp → Prop), i < n → WellAt H a (m + c) → Same (hid a H1) (hid D (hid a H)) → (∃ ys, H D = some (.lst ys)) → Y i H x H' → (∀ y H4, Same (hid a H) (hid a H4) → WellAt H4 a m → R y (hid D (hid a H4)) → k y H4) →
      g x (wipe σ vs) H' fun σ2 H2 => wipe σ2 vs = wipe σ vs ∧ te σ2 H2 k)
    (hd : ∀ H ys, Same (hid a H1) (hid D (hid a H)) → WellAt H a f → H D = some (.lst ys) → ys.length = n → (∀ y ∈ ys, R y (hid D (hid a H))) → Qd H) :
    ∃ W : Nat → Nat → Hp → Prop, (∃ m, W 0 m (upd H1 D (.lst []))) ∧ ∀ i m H, W i m H →
      (J.stop i H ∧ Qd H) ∨ (J.go i H ∧ ∃ Nx : Hp → Prop, (∀ H', Nx H' → ∃ m', m' < m ∧ W (i + 1) m' H') ∧ ∀ x H', J.yld i H x H' → g x (wipe σ vs) H' fun σ2 H2 => wipe σ2 vs = wipe σ vs ∧ tYes σ2 H2 fun b H3 =>
        if b = true then te σ2 H3 fun y H4 => ∃ acc, H4 D = some (.lst acc) ∧ acc.length < sizeLine ∧ Nx (upd H4 D (.lst (acc ++ [y]))) else Nx H3) := by
  have nD : D ≠ a := hw.ne hD
  refine lc_it w (fun i H => ∃ ys, Same (hid a H1) (hid D (hid a H)) ∧ WellAt H a (f + c * (n - i)) ∧ H D = some (.lst ys) ∧ ys.length = i ∧ ∀ y ∈ ys, R y (hid D (hid a H))) ⟨[], ?_, hw.upd nD, upd_same, rfl, fun y h => by simp at h⟩ (fun i H _ h => ?_) (fun i x H H' hi h y => ?_) (fun H h => ?_)
  · rw [hid2_upd nD]
    intro b o e
    have hb : b ≠ D := fun z => by
      rw [z, hid_ne nD, hD] at e
      cases e
    rw [hid_ne hb]
    exact e
  · obtain ⟨ys, s, _⟩ := h
    exact hS H (s.trans hid_same)
  · obtain ⟨ys, s, w, e, l, r⟩ := h
    have ec : f + c * (n - i) = (f + c * (n - (i + 1))) + c := by
      have : n - i = (n - (i + 1)) + 1 := by omega
      rw [this, Nat.mul_succ]
      omega
    rw [ec] at w
    refine hs i x H H' _ (fun y H4 => ∃ acc, H4 D = some (.lst acc) ∧ acc.length < sizeLine ∧ ∃ ys, Same (hid a H1) (hid D (hid a (upd H4 D (.lst (acc ++ [y]))))) ∧ WellAt (upd H4 D (.lst (acc ++ [y]))) a (f + c * (n - (i + 1))) ∧ (upd H4 D (.lst (acc ++ [y]))) D = some (.lst ys) ∧ ys.length = i + 1 ∧ ∀ y' ∈ ys, R y' (hid D (hid a (upd H4 D (.lst (acc ++ [y])))))) hi w s ⟨_, e⟩ y fun y H4 s4 w4 ry => ?_
    have e4 : H4 D = some (.lst ys) := by
      have := s4 D (.lst ys) (by rw [hid_ne nD]; exact e)
      rw [hid_ne nD] at this
      exact this
    refine ⟨ys, e4, small1000 (by omega), ys ++ [y], ?_, w4.upd nD, upd_same, by simp [l], fun y' h => ?_⟩
    · rw [hid2_upd nD]
      exact s.trans (hid_mono s4)
    · rw [hid2_upd nD]
      rcases List.mem_append.mp h with h | h
      · exact mono _ _ _ (hid_mono s4) (r y' h)
      · have : y' = y := by simpa using h
        rw [this]
        exact ry
  · obtain ⟨ys, s, w, e, l, r⟩ := h
    rw [Nat.sub_self, Nat.mul_zero] at w
    exact hd H ys s w e l r
end Fb

/-! Part S1: sets of objects that are found by a key of their own (tuples of ints and texts): searching, laying anew, adding. -/
namespace Fb
open PySem PySem.Spec PyProof.Rows L2
theorem units1 {u : Nat} (h : u + 64 < cLine) : u + 1 < cLine := by omega
theorem units2 {u : Nat} (h : u + 64 < cLine) : u + 2 < cLine := by omega
section
variable {P : Program} {w : World}
/-- objects known by keys: their hash, and what the model asks of two of them -/
structure Known (P : Program) (w : World) (κ : Type) [DecidableEq κ] where
  at_ : Heap → κ → Addr → Prop
  hf : κ → Int
  eq_ : ∀ {A : Around} {E : Value → Shared → Prop} {s : Shared} {k l : κ} {b c : Addr} {Q : Bool → Shared → Prop}, A.units < cLine → at_ s.heap k b → at_ s.heap l c → Q (decide (k = l)) s → wpAny (model P w) A (eqBool (.ref b) (.ref c)) Q E s
  unseen : ∀ {A : Around} {E : Value → Shared → Prop} {s : Shared} {k : κ} {b : Addr} {ys : List Value} {Q : Bool → Shared → Prop}, at_ s.heap k b → (∀ y ∈ ys, ∃ l c, y = Value.ref c ∧ at_ s.heap l c) → Q false s → wpAny (model P w) A (searchCouldBeSeen (.ref b) ys) Q E s
  byVal : ∀ {A : Around} {E : Value → Shared → Prop} {s : Shared} {k : κ} {b : Addr} {Q : Bool → Shared → Prop}, at_ s.heap k b → (∀ r, Q r s) → wpAny (model P w) A (hashByValue 8 (.ref b)) Q E s
  stays : ∀ {h h' : Heap} {k : κ} {a b : Addr} {o : Obj} {es : Array (Int × Value)} {ep : Nat} {t : SetTable}, at_ h k b → h.get? a = some o → o.data = .set es ep t → Heap.SameBut a h h' → at_ h' k b
  keeps : ∀ {h h' : Heap} {k : κ} {b : Addr}, at_ h k b → (∀ c o, h.get? c = some o → h'.get? c = some o) → at_ h' k b
variable {κ : Type} [DecidableEq κ] (N : Known P w κ)
def entries (L : List (Addr × κ)) : List (Int × Value) := L.map fun p => (N.hf p.2, Value.ref p.1)
/-- a set of them, with its table -/
structure KSet (h : Heap) (a : Addr) (L : List (Addr × κ)) (es : Array (Int × Value)) (ep : Nat) (t : SetTable) : Prop where
  obj : ∃ o, h.get? a = some o ∧ o.ExactSet ∧ o.data = .set es ep t
  ents : es.toList = entries N L
  tab : TabOk t (L.map fun p => N.hf p.2)
  once : (L.map (·.2)).Nodup
  all : ∀ p ∈ L, N.at_ h p.2 p.1
  ld : w.params.followText "set-order" = true ∨ t.led = true
  room : L.length * 5 < t.mask * 3
  few : L.length < 64
variable {N}
theorem entries_len {L : List (Addr × κ)} {es : Array (Int × Value)} (h : es.toList = entries N L) : es.size = L.length := by
  rw [← Array.length_toList, h]
  exact List.length_map ..
theorem entries_at {L : List (Addr × κ)} {es : Array (Int × Value)} (h : es.toList = entries N L) {i : Nat} {p : Addr × κ} (hp : L[i]? = some p) : es[i]? = some (N.hf p.2, Value.ref p.1) := by
  rw [← Array.getElem?_toList, h, entries, List.getElem?_map, hp]
  rfl
theorem fits_by {t : SetTable} {n : Nat} (h1 : t.place.size = n) (h2 : t.dummies = #[]) (h3 : n ≤ t.mask) : t.fits n = true := by
  simp only [SetTable.fits, SetTable.fill, h2, Bool.and_eq_true, beq_iff_eq, decide_eq_true_eq]
  exact ⟨h1, by show t.place.size + 0 ≤ t.mask; omega⟩
variable {h₀ : Heap} {a : Addr} {L : List (Addr × κ)} {es : Array (Int × Value)} {ep : Nat} {t : SetTable}
theorem KSet.fit {s : Shared} (R : KSet N s.heap a L es ep t) : t.fits es.size = true := by
  have e1 := R.tab.sz
  have e2 := entries_len R.ents
  have e3 := R.room
  rw [List.length_map] at e1
  exact fits_by (by omega) R.tab.dm (by omega)
theorem not_gave {t : SetTable} (h : MaskOk t.mask) : ¬ t.gaveWay = true := by
  unfold SetTable.gaveWay
  rw [mask_odd h]
  decide
/-- the probe's way from its c-th place on -/
abbrev wayP (m : Nat) (h : Int) (c : Nat) : SetTable.Probe := nth m (runAt m (SetTable.bits h % (m + 1)) (SetTable.bits h)) c
theorem nth_clean (m : Nat) : ∀ (n : Nat) (p : SetTable.Probe), p.dummy = none → (nth m p n).dummy = none
  | 0, _, h => h
  | n + 1, p, h => nth_clean m n (adv m p) (by unfold adv; split <;> exact h)
theorem wayP_from (m : Nat) (h : Int) (c q : Nat) : nth m (wayP m h c) q = wayP m h (c + q) := (nth_add m c _ q).symm
/-- what is asked of the search -/
structure Ask (N : Known P w κ) (L : List (Addr × κ)) (t : SetTable) (k : κ) (K : Nat) : Prop where
  fuel : K < 10 * SetTable.turns t.mask
  empty : way t.mask (N.hf k) K ∉ t.place.toList
  full : ∀ c, c < K → way t.mask (N.hf k) c ∈ t.place.toList
theorem seek {A : Around} {E : Value → Shared → Prop} {s : Shared} (R : KSet N s.heap a L es ep t) {x : Addr} {k : κ} (hx : N.at_ s.heap k x) (hu : A.units < cLine) {K : Nat} (W : Ask N L t k K) {Q : SetFound → Shared → Prop}
    (yes : k ∈ L.map (·.2) → Q (.there none) s) (no : k ∉ L.map (·.2) → Q (.free (way t.mask (N.hf k) K) false) s) (m : Nat) :
    ∀ (c f : Nat) (st : Option SetTable.Probe), K - c = m → m < f → c ≤ K → st.getD (t.probeStart (N.hf k)) = wayP t.mask (N.hf k) c →
      (∀ (i : Nat) p, L[i]? = some p → p.2 = k → ∃ d, c ≤ d ∧ d < K ∧ t.place.toList[i]? = some (way t.mask (N.hf k) d)) → wpAny (model P w) A (setSearchFrom a (.ref x) (N.hf k) true f st) Q E s := by
  induction m using Nat.strongRecOn with
  | ind m ih =>
  intro c f st hm hf hc hst ahead
  obtain ⟨o, ho, hex, hd⟩ := R.obj
  cases f with
  | zero => omega
  | succ f =>
  rw [setSearchFrom_succ]
  refine wpAny_bind (wpAny_setState_of ho hd R.fit ?_)
  dsimp only
  refine wp_if_neg (not_gave R.tab.mok) ?_
  try refine wpAny_bind (wpAny_pure ?_)
  have J : ∀ q, (nth t.mask (wayP t.mask (N.hf k) c) q).j = way t.mask (N.hf k) (c + q) := fun q => congrArg SetTable.Probe.j (wayP_from t.mask (N.hf k) c q)
  have at_h : ∀ (i : Nat) p, L[i]? = some p → (fun i => (es[i]?.map (·.1)).getD 0) i = N.hf p.2 := fun i p hp => by
    dsimp only
    rw [entries_at R.ents hp]
    rfl
  have end_ : c + (K - c) = K := by omega
  have g := go_spec t R.tab.ris R.tab.dm (fun i => (es[i]?.map (·.1)).getD 0) (N.hf k) (10 * SetTable.turns t.mask) (K - c) (wayP t.mask (N.hf k) c) (nth_clean _ _ _ rfl) (by have := W.fuel; omega)
    (fun q hq => by rw [J]; exact W.full _ (by omega)) (by rw [J, end_]; exact W.empty)
  rcases g with ⟨q, i, hq, hi, hh, before, met⟩ | ⟨none_, met⟩
  · have met' : t.probe (fun i => (es[i]?.map (·.1)).getD 0) (N.hf k) (st.getD (t.probeStart (N.hf k))) = some (.candidate (way t.mask (N.hf k) (c + q)) i (wayP t.mask (N.hf k) (c + (q + 1)))) := by
      rw [hst, ← J, ← wayP_from]
      exact met
    rw [met']
    dsimp only
    rw [J] at hi
    have il : i < L.length := by
      have e1 := (List.getElem?_eq_some_iff.mp hi).1
      have e2 := R.tab.sz
      rw [List.length_map] at e2
      rw [Array.length_toList] at e1
      omega
    have hp := List.getElem?_eq_getElem il
    generalize L[i] = p at hp
    have pm := List.mem_of_getElem? hp
    have live := slot_live R.tab.ris hi
    have tail : wpAny (model P w) A (searchRest a (.ref x) (N.hf k) true f es t (way t.mask (N.hf k) (c + q)) i (wayP t.mask (N.hf k) (c + (q + 1)))) Q E s := by
      unfold searchRest
      rw [entries_at R.ents hp]
      dsimp only
      refine wpAny_bind (wpAny_holding (N.eq_ hu (R.all p pm) hx ?_))
      refine wpAny_bind (wpAny_setState_of ho hd R.fit ?_)
      dsimp only
      by_cases e : p.2 = k
      · exact wp_if_pos (by simp [e]) (wpAny_pure (yes (List.mem_map.mpr ⟨p, pm, e⟩)))
      · refine wp_if_neg (by simp [e]) ?_
        try refine wpAny_bind (wpAny_pure ?_)
        rw [sameMem]
        dsimp only
        simp only [if_true, live, entries_at R.ents hp]
        refine wpAny_bind (wpAny_isSame_ref_self (wpAny_bind (wpAny_pure ?_)))
        simp only [if_true]
        refine wp_if_neg (by simp [e]) ?_
        refine ih (K - (c + (q + 1))) (by omega) (c + (q + 1)) f _ rfl (by omega) (by omega) rfl fun i' p' hp' hk' => ?_
        obtain ⟨d, d1, d2, d3⟩ := ahead i' p' hp' hk'
        refine ⟨d, ?_, d2, d3⟩
        have n1 : ¬ d < c + q := fun z => before (d - c) i' (by omega) (by rw [J, show c + (d - c) = d by omega]; exact d3) ((at_h i' p' hp').trans (congrArg N.hf hk'))
        have n2 : d ≠ c + q := fun z => by
          rw [z] at d3
          have l2 := slot_live R.tab.ris d3
          rw [live] at l2
          cases l2
          rw [hp] at hp'
          cases hp'
          exact e hk'
        omega
    by_cases hl : t.led = true
    · refine wp_if_neg (by simp [hl]) ?_
      try refine wpAny_bind (wpAny_pure ?_)
      exact tail
    · refine wp_if_pos (by simp [hl]) ?_
      refine wpAny_bind (N.unseen hx (fun y hy => ?_) ?_)
      · obtain ⟨e, he, rfl⟩ := List.mem_map.mp hy
        have he : e ∈ es.toList := by
          have : e ∈ es ∧ e.1 = N.hf k := by simpa using he
          simpa using this.1
        rw [R.ents] at he
        obtain ⟨p', hp', rfl⟩ := List.mem_map.mp he
        exact ⟨p'.2, p'.1, rfl, R.all p' hp'⟩
      · refine wp_if_neg (by decide) ?_
        try refine wpAny_bind (wpAny_pure ?_)
        exact tail
  · have met' : t.probe (fun i => (es[i]?.map (·.1)).getD 0) (N.hf k) (st.getD (t.probeStart (N.hf k))) = some (.empty (way t.mask (N.hf k) K) none) := by
      have e : way t.mask (N.hf k) K = (nth t.mask (wayP t.mask (N.hf k) c) (K - c)).j := by rw [J, end_]
      rw [hst, e]
      exact met
    rw [met']
    dsimp only
    refine wpAny_pure (no fun hk => ?_)
    obtain ⟨p, pm, e⟩ := List.mem_map.mp hk
    obtain ⟨i, hi, ei⟩ := List.getElem_of_mem pm
    have hp : L[i]? = some p := by rw [List.getElem?_eq_getElem hi, ei]
    obtain ⟨d, d1, d2, d3⟩ := ahead i p hp e
    exact none_ (d - c) i (by omega) (by rw [J, show c + (d - c) = d by omega]; exact d3) ((at_h i p hp).trans (congrArg N.hf e))
theorem search {A : Around} {E : Value → Shared → Prop} {s : Shared} (R : KSet N s.heap a L es ep t) {x : Addr} {k : κ} (hx : N.at_ s.heap k x) (hu : A.units < cLine) {Q : SetFound → Shared → Prop} (yes : k ∈ L.map (·.2) → Q (.there none) s)
    (no : ∀ K, Ask N L t k K → k ∉ L.map (·.2) → Q (.free (way t.mask (N.hf k) K) false) s) : wpAny (model P w) A (setSearch a (.ref x) (N.hf k) true) Q E s := by
  have rm := R.room
  obtain ⟨K, k1, k2, k3⟩ := R.tab.first (by rw [List.length_map]; omega) (N.hf k)
  have W : Ask N L t k K := ⟨k1, k2, k3⟩
  have small : K < 100000 := by
    have : 10 * SetTable.turns t.mask ≤ 1420 := by
      unfold SetTable.turns
      rcases R.tab.mok with e | e | e <;> omega
    omega
  unfold setSearch
  refine seek R hx hu W yes (no K W) (K - 0) 0 100000 none rfl (by omega) (Nat.zero_le _) rfl fun i p hp hk => ?_
  have il : i < t.place.toList.length := by
    have e1 := (List.getElem?_eq_some_iff.mp hp).1
    have e2 := R.tab.sz
    rw [List.length_map] at e2
    rw [Array.length_toList]
    omega
  have hj := List.getElem?_eq_getElem il
  obtain ⟨d, d1, d2⟩ := R.tab.before k2 (i := i) (by rw [List.getElem?_map, hp, ← hk]; rfl) hj
  exact ⟨d, Nat.zero_le _, d1, by rw [hj, d2]⟩
/-! ### laid anew -/
theorem filterMap_ix {α : Type} (L : List α) : ∀ n, n ≤ L.length → (List.range n).filterMap (fun i => L[i]?) = L.take n
  | 0, _ => rfl
  | n + 1, h => by
    have hl : n < L.length := h
    have e := List.getElem?_eq_getElem hl
    rw [List.range_succ, List.filterMap_append, filterMap_ix L n (Nat.le_of_lt hl), List.take_add_one, e]
    simp [List.filterMap, e]
theorem reorder (order : List Nat) (hs : es.toList = entries N L) (hp : ∀ i ∈ order, i < L.length) :
    order.filterMap (fun i => es[i]?) = entries N (order.filterMap fun i => L[i]?) ∧ ((order.filterMap fun i => L[i]?).map fun p => N.hf p.2) = order.map fun i => (es.map (·.1)).getD i 0 := by
  induction order with
  | nil => exact ⟨rfl, rfl⟩
  | cons i r ih =>
    have hi := hp i List.mem_cons_self
    obtain ⟨e1, e2⟩ := ih fun j hj => hp j (List.mem_cons_of_mem _ hj)
    have g := List.getElem?_eq_getElem hi
    have ge := entries_at hs g
    refine ⟨?_, ?_⟩
    · rw [List.filterMap_cons_some ge, List.filterMap_cons_some g, e1]
      rfl
    · rw [List.filterMap_cons_some g, List.map_cons, List.map_cons, e2]
      congr 1
      have e5 : (es.map (·.1))[i]? = some (N.hf (L[i]).2) := by
        rw [Array.getElem?_map, ge]
        rfl
      simp [Array.getD_eq_getD_getElem?, e5]
theorem relay {A : Around} {E : Value → Shared → Prop} {s : Shared} {o : Obj} (ho : s.heap.get? a = some o) (hex : o.ExactSet) (hd : o.data = .set es ep t) (he : es.toList = entries N L) (hz : t.place.size = es.size) (hdm : t.dummies = #[]) (hle : es.size ≤ t.mask)
    (once : (L.map (·.2)).Nodup) (all : ∀ p ∈ L, N.at_ s.heap p.2 p.1) (ld : w.params.followText "set-order" = true ∨ t.led = true) (few : L.length < 64) {want M : Nat}
    (hw : SetTable.sizeAbove want - 1 = M) (hM : MaskOk M) (h128 : SetTable.sizeAbove want ≤ 128) (room : L.length * 5 < M * 3) {Q : Unit → Shared → Prop}
    (q : ∀ h' L' es' ep' t', Heap.SameBut a s.heap h' → KSet N h' a L' es' ep' t' → L'.Perm L → Q () { s with heap := h' }) : wpAny (model P w) A (setRelay a want) Q E s := by
  have ln := entries_len he
  obtain ⟨t', order, e, hp, T, em, el, epl, ed⟩ := relaid_ok t (hs := es.map (·.1)) (wanted := want) hw hM (by rw [Array.size_map, ln]; omega)
  rw [Array.size_map, ln] at hp
  obtain ⟨r1, r2⟩ := reorder order.toList he fun i hi => List.mem_range.mp (hp.mem_iff.mp hi)
  rw [← r2] at T
  have pm : (order.toList.filterMap fun i => L[i]?).Perm L := by
    have := hp.filterMap fun i => L[i]?
    rw [filterMap_ix L _ (Nat.le_refl _), List.take_length] at this
    exact this
  generalize (order.toList.filterMap fun i => L[i]?) = L2 at r1 T pm
  have r1 : (order.filterMap (es[·]?)).toList = entries N L2 := by
    rw [Array.toList_filterMap]
    exact r1
  have hs2 : (order.filterMap (es[·]?)).size = es.size := by rw [entries_len r1, pm.length_eq, ln]
  rw [setRelay_eq]
  refine wpAny_bind (wpAny_setState_of ho hd (fits_by hz hdm hle) ?_)
  dsimp only
  refine wp_if_neg (by rw [sizeLine_eq]; omega) ?_
  try refine wpAny_bind (wpAny_pure ?_)
  rw [e]
  dsimp only
  refine wpAny_bind ?_
  refine wp_if_neg (by rw [hs2]; simp) ?_
  try refine wpAny_bind (wpAny_pure ?_)
  refine wpAny_pure ?_
  dsimp only
  refine wpAny_storeSet_of ho hd ?_ (by rw [hs2, ln, sizeLine_eq]; omega)
  have sb : Heap.SameBut a s.heap (s.heap.update a (Obj.putSet (order.filterMap (es[·]?)) t')) := Heap.SameBut.update ..
  exact q _ L2 _ (ep + 1) t' sb ⟨⟨_, store_at ho hd, ⟨hex.1, hex.2.1, hex.2.2⟩, rfl⟩, r1, T, (pm.map (·.2)).nodup_iff.mpr once, fun p hm => N.stays (all p (pm.mem_iff.mp hm)) ho hd sb, by rw [el]; exact ld, by rw [pm.length_eq, em]; exact room, by rw [pm.length_eq]; exact few⟩ pm
/-! ### adding -/
theorem add_key {A : Around} {E : Value → Shared → Prop} {s : Shared} (R : KSet N s.heap a L es ep t) {x : Addr} {k : κ} (hx : N.at_ s.heap k x) (hu : A.units < cLine) (few : L.length + 1 < 64) {Q : Bool → Shared → Prop}
    (q : ∀ b h' L' es' ep' t', Heap.SameBut a s.heap h' → KSet N h' a L' es' ep' t' → (k ∈ L.map (·.2) → L' = L) → (k ∉ L.map (·.2) → L'.Perm ((x, k) :: L)) → Q b { s with heap := h' }) :
    wpAny (model P w) A (setAddHashed a (.ref x) (N.hf k)) Q E s := by
  obtain ⟨o, ho, hex, hd⟩ := R.obj
  have ln := entries_len R.ents
  have rm := R.room
  unfold setAddHashed
  refine wpAny_holding ?_
  rw [show (100000 : Nat) = 99999 + 1 from rfl, setAddHashedIn_succ]
  refine wpAny_bind (wpAny_setState_of ho hd R.fit ?_)
  dsimp only
  refine wp_if_neg (by simp [byScan, Value.scannable]) ?_
  try refine wpAny_bind (wpAny_pure ?_)
  refine wpAny_bind (search R hx hu (fun hm => ?_) fun K W hm => ?_)
  · exact wpAny_pure (q false s.heap L es ep t (Heap.SameBut.refl a s.heap) R (fun _ => rfl) fun z => absurd hm z)
  · dsimp only
    refine wpAny_bind (wpAny_setState_of ho hd R.fit ?_)
    dsimp only
    obtain ⟨q1, q2, q3, q4, q5, q6, _, _, q9⟩ := R.tab.put W.empty W.full
    generalize t.put (way t.mask (N.hf k) K) = tp at q1 q3 q4 q5 q9 ⊢
    obtain ⟨t0, i⟩ := tp
    dsimp only at q1 q3 q4 q5 q9 ⊢
    subst q1
    generalize SetTable.below t.place (way t.mask (N.hf k) K) = i at q2 q3 ⊢
    have either : ∀ (r : Bool), ∃ t1 : SetTable, (if r = true then t0 else { t0 with plain := false }) = t1 ∧ t1.place = t0.place ∧ t1.dummies = t0.dummies ∧ t1.mask = t0.mask ∧ t1.led = t0.led ∧ t1.fill = t0.fill := fun r => by
      cases r
      · exact ⟨_, rfl, rfl, rfl, rfl, rfl, rfl⟩
      · exact ⟨_, rfl, rfl, rfl, rfl, rfl, rfl⟩
    have goOn : ∀ r, wpAny (model P w) A (do
        storeSet a (SetTable.insertAt es i (N.hf k, Value.ref x)) (if r = true then t0 else { t0 with plain := false })
        if !false && (if r = true then t0 else { t0 with plain := false }).tooFull then setRelay a (SetTable.grown (es.size + 1))
        return true) Q E s := fun r => ?_
    · by_cases hpl : t0.plain = true
      · first
          | (refine wpAny_bind ?_; refine wp_if_pos hpl ?_; exact N.byVal hx goOn)
          | exact wp_if_pos hpl (wpAny_bind (N.byVal hx goOn))
      · first
          | (refine wpAny_bind ?_; refine wp_if_neg hpl ?_; exact wpAny_pure (goOn true))
          | exact wp_if_neg hpl (wpAny_bind (wpAny_pure (goOn true)))
    obtain ⟨t1, et, f1, f2, f3, f4, f5⟩ := either r
    rw [et]
    have q3 : TabOk t1 _ := ⟨by rw [f1]; exact q3.ris, by rw [f2]; exact q3.dm, by rw [f1]; exact q3.sz, by rw [f3]; exact q3.mok, by rw [f1, f3]; exact q3.bd, by rw [f1, f3]; exact q3.reach⟩
    rw [← f3] at q4
    rw [← f4] at q5
    rw [← f5] at q9
    clear f1 f2 f3 f4 f5 et either
    have he : (SetTable.insertAt es i (N.hf k, Value.ref x)).toList = entries N (L.take i ++ (x, k) :: L.drop i) := by
      rw [SetTable.toList_insertAt, R.ents]
      simp only [entries, List.map_append, List.map_cons, List.map_take, List.map_drop]
    have pm := put_perm L i (x, k)
    rw [show (L.map fun p => N.hf p.2).take i ++ N.hf k :: (L.map fun p => N.hf p.2).drop i = (L.take i ++ (x, k) :: L.drop i).map (fun p => N.hf p.2) by simp only [List.map_append, List.map_cons, List.map_take, List.map_drop]] at q3
    generalize SetTable.insertAt es i (N.hf k, Value.ref x) = es1 at he ⊢
    generalize L.take i ++ (x, k) :: L.drop i = L1 at pm q3 he
    have l1 : L1.length = L.length + 1 := pm.length_eq
    have z1 : es1.size = L.length + 1 := by rw [entries_len he, l1]
    have once1 : (L1.map (·.2)).Nodup := (pm.map (·.2)).nodup_iff.mpr (List.nodup_cons.mpr ⟨hm, R.once⟩)
    refine wpAny_bind (wpAny_storeSet_of ho hd ?_ (by rw [z1, sizeLine_eq]; omega))
    have sb : Heap.SameBut a s.heap (s.heap.update a (Obj.putSet es1 t1)) := Heap.SameBut.update ..
    have ho1 := store_at (es' := es1) (t' := t1) ho hd
    generalize s.heap.update a (Obj.putSet es1 t1) = h1 at sb ho1 ⊢
    have all1 : ∀ p ∈ L1, N.at_ h1 p.2 p.1 := fun p hp => by
      rcases List.mem_cons.mp (pm.mem_iff.mp hp) with rfl | hp
      · exact N.stays hx ho hd sb
      · exact N.stays (R.all p hp) ho hd sb
    have ld1 : w.params.followText "set-order" = true ∨ t1.led = true := by rw [q5]; exact R.ld
    have full : t1.tooFull = true ↔ (L.length + 1) * 5 ≥ t.mask * 3 := by
      unfold SetTable.tooFull
      rw [decide_eq_true_eq, q9, List.length_map, q4]
    by_cases hf : t1.tooFull = true
    · first
        | (refine wpAny_bind ?_; refine wp_if_pos (by simp [hf]) ?_)
        | (refine wp_if_pos (by simp [hf]) ?_; refine wpAny_bind ?_)
      have hf := full.mp hf
      have sz1 : t1.place.size = es1.size := by
        have := q3.sz
        rw [List.length_map, l1] at this
        rw [this, z1]
      have two : (t.mask = 7 ∧ L.length = 4) ∨ (t.mask = 31 ∧ L.length = 18) := by
        rcases R.tab.mok with e | e | e <;> rw [e] at hf rm <;> omega
      rw [ln]
      have grow : ∀ M, SetTable.sizeAbove (SetTable.grown (L.length + 1)) - 1 = M → MaskOk M → SetTable.sizeAbove (SetTable.grown (L.length + 1)) ≤ 128 → (L.length + 1) * 5 < M * 3 →
          wpAny (model P w) A (setRelay a (SetTable.grown (L.length + 1))) (fun _ s' => wpAny (model P w) A (pure true) Q E s') E { s with heap := h1 } := fun M g1 g2 g3 g4 =>
        relay (s := { s with heap := h1 }) ho1 ⟨hex.1, hex.2.1, hex.2.2⟩ rfl he sz1 q3.dm (by rw [z1, q4]; rcases two with ⟨_, _⟩ | ⟨_, _⟩ <;> omega) once1 all1 ld1 (by omega) g1 g2 g3 (by rw [l1]; exact g4)
          fun h2 L2 es2 ep2 t2 sb2 R2 pm2 => wpAny_pure (q true h2 L2 es2 ep2 t2 (sb.trans sb2) R2 (fun z => absurd z hm) fun _ => pm2.trans pm)
      rcases two with ⟨_, e⟩ | ⟨_, e⟩
      · exact grow 31 (by rw [e, size_20]) (.inr (.inl rfl)) (by rw [e, size_20]; decide) (by omega)
      · exact grow 127 (by rw [e, size_76]) (.inr (.inr rfl)) (by rw [e, size_76]; decide) (by omega)
    · first
        | refine wp_if_neg (by simp [hf]) ?_
        | (refine wpAny_bind ?_; refine wp_if_neg (by simp [hf]) ?_; refine wpAny_pure ?_)
      have hf : ¬ (L.length + 1) * 5 ≥ t.mask * 3 := fun z => hf (full.mpr z)
      exact wpAny_pure (q true h1 L1 es1 (ep + 1) t1 sb ⟨⟨_, ho1, ⟨hex.1, hex.2.1, hex.2.2⟩, rfl⟩, he, q3, once1, all1, ld1, by rw [l1, q4]; omega, by omega⟩ (fun z => absurd z hm) fun _ => pm)
theorem fresh_set {h : Heap} (ho : h.get? a = some { cls := .type "set", dict := none, data := .set #[] 0 (.fresh 0 0 (!w.params.followText "set-order")) }) : KSet N h a [] #[] 0 (.fresh 0 0 (!w.params.followText "set-order")) := by
  refine ⟨⟨_, ho, ⟨rfl, rfl, rfl⟩, rfl⟩, rfl, ⟨?_, rfl, rfl, .inl rfl, fun x h => ?_, fun i h j e => ?_⟩, List.nodup_nil, fun p h => ?_, ?_, by show 0 * 5 < 7 * 3; decide, by show 0 < 64; decide⟩
  · exact .nil
  · cases h
  · cases e
  · cases h
  · cases w.params.followText "set-order"
    · exact .inr rfl
    · exact .inl rfl
end
/-! ### tuples of ints and texts -/
section
variable {P : Program} {w : World}
theorem items_plain {ks : List Key} {vs : List Value} (h : ItemsAre (mixKind P w) ks vs) : ∀ v ∈ vs, (∃ i t, v = Value.int i t) ∨ ∃ x t, v = Value.str x t := by
  induction h with
  | nil => intro v hv; cases hv
  | cons h1 _ ih =>
    intro v hv
    rcases List.mem_cons.mp hv with rfl | hv
    · rcases keyIs_shape h1 with ⟨i, t, _, e⟩ | ⟨x, t, _, e⟩
      · exact .inl ⟨i, t, e⟩
      · exact .inr ⟨x, t, e⟩
    · exact ih v hv
theorem plain_cls {v : Value} (h : (∃ i t, v = Value.int i t) ∨ ∃ x t, v = Value.str x t) (n : Nat) : ofAClassStatement n v = pure false := by
  rcases h with ⟨i, t, rfl⟩ | ⟨x, t, rfl⟩ <;> cases n <;> rfl
theorem plain_hash {v : Value} (h : (∃ i t, v = Value.int i t) ∨ ∃ x t, v = Value.str x t) (n : Nat) : ∃ r, hashByValue n v = pure r := by
  rcases h with ⟨i, t, rfl⟩ | ⟨x, t, rfl⟩
  · exact ⟨_, hashByValue_scannable n rfl⟩
  · exact ⟨_, hashByValue_scannable n rfl⟩
theorem tup_cls {A : Around} {E : Value → Shared → Prop} {s : Shared} {k : List Key} {b : Addr} {Q : Bool → Shared → Prop} (hk : IsTupleKey (mixKind P w) s.heap k b) (q : Q false s) : wpAny (model P w) A (ofAClassStatement 8 (.ref b)) Q E s := by
  have ty := hk.typeIs
  obtain ⟨o, its, n, ho, _, hd, hi⟩ := hk
  unfold ofAClassStatement
  refine wpAny_bind (wpAny_typeOf ty ?_)
  dsimp only
  simp only [show (("tuple" : String) == "tuple") = true by decide, if_true, Bool.not_true, Bool.false_eq_true, if_false]
  try refine wpAny_bind (wpAny_pure ?_)
  try simp only [Bool.not_true, Bool.false_eq_true, if_false]
  show wpAny _ _ (seqItems? (.ref b) >>= _) _ _ s
  refine wpAny_bind (wpAny_seqItems ho hd ?_)
  dsimp only
  refine wpAny_bind ?_
  show wpAny _ _ (forIn its _ _) _ _ s
  rw [← Array.forIn_toList]
  refine wpAny_forIn_list _ (fun rest r s' => r.1 = none ∧ s' = s ∧ ∀ v ∈ rest, (∃ i t, v = Value.int i t) ∨ ∃ x t, v = Value.str x t) _ ?_ ?_ _ _ ⟨rfl, rfl, items_plain hi⟩
  · rintro v rest r s' ⟨_, rfl, al⟩
    rw [plain_cls (al v List.mem_cons_self)]
    refine wpAny_bind (wpAny_pure ?_)
    simp only [Bool.false_eq_true, if_false]
    exact wpAny_pure ⟨rfl, rfl, fun u hu => al u (List.mem_cons_of_mem _ hu)⟩
  · rintro ⟨r1, r2⟩ s' ⟨hr, rfl, _⟩
    simp only at hr
    subst hr
    exact wpAny_pure q
theorem tup_byVal {A : Around} {E : Value → Shared → Prop} {s : Shared} {k : List Key} {b : Addr} {Q : Bool → Shared → Prop} (hk : IsTupleKey (mixKind P w) s.heap k b) (q : ∀ r, Q r s) : wpAny (model P w) A (hashByValue 8 (.ref b)) Q E s := by
  have ty := hk.typeIs
  obtain ⟨o, its, n, ho, _, hd, hi⟩ := hk
  unfold hashByValue
  refine wpAny_bind (wpAny_specialOf ty F.slot_tuple_hash.lookup ?_)
  show wpAny _ _ (seqItems? (.ref b) >>= _) _ _ s
  refine wpAny_bind (wpAny_seqItems ho hd ?_)
  refine wpAny_bind ?_
  show wpAny _ _ (forIn its _ _) _ _ s
  rw [← Array.forIn_toList]
  refine wpAny_forIn_list _ (fun rest r s' => s' = s ∧ ∀ v ∈ rest, (∃ i t, v = Value.int i t) ∨ ∃ x t, v = Value.str x t) _ ?_ ?_ _ _ ⟨rfl, items_plain hi⟩
  · rintro v rest r s' ⟨rfl, al⟩
    obtain ⟨c, e⟩ := plain_hash (al v List.mem_cons_self) 7
    rw [e]
    refine wpAny_bind (wpAny_pure ?_)
    cases c
    · simp only [Bool.not_false, if_true]
      exact wpAny_pure (wpAny_pure (q false))
    · simp only [Bool.not_true, Bool.false_eq_true, if_false]
      exact wpAny_pure ⟨rfl, fun u hu => al u (List.mem_cons_of_mem _ hu)⟩
  · rintro ⟨r1, r2⟩ s' ⟨rfl, _⟩
    cases r1
    · exact wpAny_pure (q _)
    · exact wpAny_pure (q _)
theorem tup_unseen {A : Around} {E : Value → Shared → Prop} {s : Shared} {k : List Key} {b : Addr} {ys : List Value} {Q : Bool → Shared → Prop} (hk : IsTupleKey (mixKind P w) s.heap k b) (hy : ∀ y ∈ ys, ∃ l c, y = Value.ref c ∧ IsTupleKey (mixKind P w) s.heap l c) (q : Q false s) :
    wpAny (model P w) A (searchCouldBeSeen (.ref b) ys) Q E s := by
  unfold searchCouldBeSeen
  refine wpAny_bind (wpAny_forIn_list _ (fun rest r s' => r.1 = none ∧ s' = s ∧ ∀ y ∈ rest, ∃ l c, y = Value.ref c ∧ IsTupleKey (mixKind P w) s.heap l c) _ ?_ ?_ _ _ ⟨rfl, rfl, hy⟩)
  · rintro v rest r s' ⟨_, rfl, al⟩
    obtain ⟨l, c, rfl, hc⟩ := al v List.mem_cons_self
    have more : ∀ y ∈ rest, ∃ l c, y = Value.ref c ∧ IsTupleKey (mixKind P w) s'.heap l c := fun u hu => al u (List.mem_cons_of_mem _ hu)
    dsimp only
    by_cases hv : (b == c || (carriedByValue (.ref b) && carriedByValue (.ref c))) = true
    · exact wp_if_pos hv (wpAny_pure ⟨rfl, rfl, more⟩)
    · refine wp_if_neg hv (wpAny_bind (wpAny_eqIsQuiet_tuple hk ?_))
      simp only [Bool.not_true, Bool.false_eq_true, if_false]
      refine wpAny_bind (wpAny_eqIsQuiet_tuple hc ?_)
      simp only [Bool.not_true, Bool.false_eq_true, if_false]
      refine wpAny_bind (tup_cls hk ?_)
      simp only [Bool.false_eq_true, if_false]
      refine wpAny_bind (tup_cls hc ?_)
      simp only [Bool.false_eq_true, if_false]
      exact wpAny_pure ⟨rfl, rfl, more⟩
  · rintro ⟨r1, r2⟩ s' ⟨hr, rfl, _⟩
    simp only at hr
    subst hr
    exact wpAny_pure q
/-- tuples of ints and texts are known by what they hold -/
def mixT (P : Program) (w : World) : Known P w (List Key) where
  at_ := fun h k b => IsTupleKey (mixKind P w) h k b
  hf := tupleKeyHash (mixKind P w)
  eq_ := fun hu hb hc q => wpAny_eqBool_tuple hu hb hc q
  unseen := fun hb hy q => tup_unseen hb hy q
  byVal := fun hb q => tup_byVal hb q
  stays := fun {h h' k a b o es ep t} hb ho hd sb => by
    obtain ⟨o', its, n, e, c, d, i⟩ := hb
    have ne : b ≠ a := by
      rintro rfl
      rw [ho] at e
      cases e
      rw [hd] at d
      cases d
    exact ⟨o', its, n, (sb.2 b ne).trans e, c, d, i⟩
  keeps := fun {h h' k b} hb hk => by
    obtain ⟨o', its, n, e, c, d, i⟩ := hb
    exact ⟨o', its, n, hk b o' e, c, d, i⟩
end
end Fb

/-! Part S2: set comprehensions of tuples of ints and texts, and how many a set has. -/
namespace Fb
open PySem PySem.Spec PyProof.Rows L2
abbrev Keyed := List (Addr × List Key)
/-- what the set's object tells by itself -/
def MSet (P : Program) (w : World) (h : Heap) (a : Addr) (L : Keyed) : Prop := ∃ es ep t, (∃ o, h.get? a = some o ∧ o.ExactSet ∧ o.data = .set es ep t) ∧ es.toList = entries (mixT P w) L ∧ TabOk t (L.map fun p => (mixT P w).hf p.2) ∧ (L.map (·.2)).Nodup ∧
  (w.params.followText "set-order" = true ∨ t.led = true) ∧ L.length * 5 < t.mask * 3 ∧ L.length < 64
def MSetO (P : Program) (w : World) (a : Addr) (L : Keyed) : HO := .ext fun h => MSet P w h a L
theorem KSet.bare {P : Program} {w : World} {h : Heap} {a : Addr} {L : Keyed} {es : Array (Int × Value)} {ep : Nat} {t : SetTable} (R : KSet (mixT P w) h a L es ep t) : MSet P w h a L := ⟨es, ep, t, R.obj, R.ents, R.tab, R.once, R.ld, R.room, R.few⟩
theorem MSet.with {P : Program} {w : World} {h : Heap} {a : Addr} {L : Keyed} (R : MSet P w h a L) (al : ∀ p ∈ L, (mixT P w).at_ h p.2 p.1) : ∃ es ep t, KSet (mixT P w) h a L es ep t := by
  obtain ⟨es, ep, t, r1, r2, r3, r4, r5, r6, r7⟩ := R
  exact ⟨es, ep, t, r1, r2, r3, r4, al, r5, r6, r7⟩
theorem MSet.ok {P : Program} {w : World} {H : Hp} {h : Heap} {a : Addr} {L : Keyed} (R : MSet P w h a L) : ObjOk P w H h a (MSetO P w a L) := by
  have ⟨_, _, _, ⟨o, ho, _⟩, _⟩ := R
  refine ⟨R, ⟨o, ho⟩, fun h1 h2 p k => ?_⟩
  obtain ⟨es, ep, t, ⟨o', ho', r⟩, q⟩ := (show MSet P w h1 a L from p)
  exact ⟨es, ep, t, ⟨o', k o' ho', r⟩, q⟩
theorem keys_of {P : Program} {w : World} : ∀ {ks : List Key} {us : List Value}, Vals (ks.map kV) us → ItemsAre (mixKind P w) ks us
  | [], _, .nil => .nil
  | .inl i :: ks, _, .cons r q => by
    obtain ⟨t, rfl⟩ := r
    exact .cons (by show Value.isInt i (Value.int i t) = true; simp [Value.isInt]) (keys_of q)
  | .inr x :: ks, _, .cons r q => by
    obtain ⟨t, rfl⟩ := r
    exact .cons (by show Value.isStrOf x (Value.str x t) = true; simp [Value.isStrOf]) (keys_of q)
section
variable {X : Cx} {pins : List (Addr × Obj)} {σ : L2.St} {H : Hp} {s : Shared}
theorem mix_at (I : Inv X pins σ H s) {b : Addr} {k : List Key} (h : H b = some (.tup (k.map kV))) : (mixT X.prog X.w).at_ s.heap k b := by
  obtain ⟨_, its, r, o, ho, hc, n, hd⟩ := (show ObjOk X.prog X.w H s.heap b (.tup (k.map kV)) from I.hok b _ h)
  exact ⟨o, its.toArray, n, ho, hc, hd, by simpa using keys_of r⟩
/-- set.add -/
theorem add_mix {A : Around} {E : Value → Shared → Prop} {D b : Addr} {L : Keyed} {k : List Key} {Q : Value → Shared → Prop} (hA : A.units + 1 < cLine) (I : Inv X pins σ H s) (hD : H D = some (MSetO X.prog X.w D L)) (hb : H b = some (.tup (k.map kV))) (al : ∀ p ∈ L, H p.1 = some (.tup (p.2.map kV))) (few : L.length + 1 < 64)
    (q : ∀ s' L', (k ∈ L.map (·.2) → L' = L) → (k ∉ L.map (·.2) → L'.Perm ((b, k) :: L)) → Inv X pins σ (upd H D (MSetO X.prog X.w D L')) s' → Q .none s') : wpAny (model X.prog X.w) A (call (.builtin "set.add") [.ref D, .ref b]) Q E s := by
  obtain ⟨es, ep, t, R⟩ := MSet.with (I.hok D _ hD).1 fun p hp => mix_at I (al p hp)
  have kb := mix_at I hb
  obtain ⟨o, ho, hex, hd⟩ := R.obj
  have ty : s.TypeIs (.ref D) "set" := ⟨o, ho, hex.1⟩
  refine wpAny_call_entry F.slot_set_add ty F.entry_set_add ?_ (F.args_set_add_2 _ _)
  unfold Builtin.«set.add» Builtin.Frozenset.oneOther
  simp only [List.isEmpty_nil, bind_assoc]
  unfold Builtin.Frozenset.addrOf setAdd
  refine wpAny_bind (wpAny_pure ?_)
  try dsimp only
  refine wpAny_bind (wpAny_pure ?_)
  try dsimp only
  refine wpAny_bind (wpAny_holding ?_)
  refine wpAny_bind (wpAny_pyHash_tuple (by show A.in1.units < cLine; exact hA) kb ?_)
  refine add_key (N := mixT X.prog X.w) (s := { s with toks := s.toks + (k.length + 1) }) R kb (by show A.in1.units < cLine; exact hA) few fun r h' L' es' ep' t' sb R' y n => ?_
  show wpAny _ _ (ret Value.none) _ _ _
  refine wpAny_pure ⟨_, rfl, q _ L' y n ?_⟩
  have he : ∃ u, h'.get? D = some u := by
    obtain ⟨o', ho', _⟩ := R'.obj
    exact ⟨o', ho'⟩
  exact I.write (e := D) (t' := s.toks + (k.length + 1)) (by rw [hD]; trivial) (.inl rfl) (fun c u hc hu => (sb.2 c hc).trans hu) he R'.bare.ok
end
section
variable {X : Cx}
/-- {elt for target in iter if ..}, elt a tuple of ints and texts -/
def tScM (P : Program) (w : World) (wi : TI) (g : TG) (tt : TT) (te : TE) (vs : List Nat) : TE := fun σ H Q => wi σ H fun J H1 => ∀ D, H1 D = none → ∃ W : Nat → Nat → Hp → Prop, (∃ m, W 0 m (upd H1 D (MSetO P w D []))) ∧ ∀ i m H, W i m H →
  (J.stop i H ∧ Q (.ref D) H) ∨ (J.go i H ∧ ∃ Nx : Hp → Prop, (∀ H', Nx H' → ∃ m', m' < m ∧ W (i + 1) m' H') ∧ ∀ x H', J.yld i H x H' → g x (wipe σ vs) H' fun σ2 H2 => wipe σ2 vs = wipe σ vs ∧ tt σ2 H2 fun b H3 =>
    if b = true then te σ2 H3 fun y H4 => ∃ (c : Addr) (k : List Key) (L : Keyed), y = .ref c ∧ H4 c = some (.tup (k.map kV)) ∧ H4 D = some (MSetO P w D L) ∧ (∀ p ∈ L, H4 p.1 = some (.tup (p.2.map kV))) ∧ L.length + 1 < 64 ∧
      ∀ L', (k ∈ L.map (·.2) → L' = L) → (k ∉ L.map (·.2) → L'.Perm ((c, k) :: L)) → Nx (upd H4 D (MSetO P w D L')) else Nx H3)
theorem mset_new {P : Program} {w : World} {H : Hp} {h : Heap} : ObjOk P w H (h.push { cls := .type "set", dict := none, data := .set #[] 0 (.fresh 0 0 (!w.params.followText "set-order")) }) h.objs.size (MSetO P w h.objs.size []) :=
  (fresh_set (N := mixT P w) (Heap.get?_push_size _ rfl)).bare.ok
theorem pe_scM {elt tg iter : Expr} {ifs : List Expr} {scope : Scope} {own : List (Str × Nat)} {pos : Pos} {wi : TI} {g : TG} {tt : TT} {te : TE} (hu : X.A.units + 1 < cLine) (hc : X.calm = true) (hN : X.N.Nodup) (hi : PI X tg iter wi) (ok : BlkOk X.N X.env.scope scope own)
    (hg : ∀ (s : Shared) (H : Hp) (C : Addr) (cl : List (Str × Addr)) (fp : List Addr), PG (X.blk s H scope (compEnvC scope cl C X.env) fp) tg g)
    (ht : ∀ (s : Shared) (H : Hp) (C : Addr) (cl : List (Str × Addr)) (fp : List Addr), PTs (X.blk s H scope (compEnvC scope cl C X.env) fp) ifs tt)
    (he : ∀ (s : Shared) (H : Hp) (C : Addr) (cl : List (Str × Addr)) (fp : List Addr), PE (X.blk s H scope (compEnvC scope cl C X.env) fp) elt te)
    (hs : ∀ x, foldedSetIterable iter X.env x = pure x := by intro _; rfl) : PE X (.SetComp elt [⟨tg, iter, ifs, 0⟩] scope pos) (tScM X.prog X.w wi g tt te (own.map (·.2))) := by
  refine ⟨fun pins s σ H Q I h => ?_⟩
  rw [PpSet.eval_SetComp]
  have free : ∀ y ∈ scope.names, y.2 = .free → ∃ c, X.env.cells.lookup y.1 = some c := fun y hy e => (ok.free y hy e).elim (fun k => I.ok.has _ (.inl k)) fun k => I.ok.has _ (.inr k)
  refine wpAny_comprehension_free (use := none) rfl hs (closure_ok free) ok.kind (fun y hy e => by rw [ok.uniq y hy, e]) (thn (hi.run pins s σ H _ I h) fun xv s1 hx => thn hx fun itv s2 h2 => ?_)
  obtain ⟨it, fp, tn, J, H2, rfl, I2, T, st2, f2, q⟩ := h2
  refine PpSet.newSet_ok (newEnv_comp ?_)
  have nD : H2 s2.heap.objs.size = none := I2.hok.fresh (Nat.le_refl _)
  obtain ⟨W, ⟨m0, w0⟩, turn⟩ := q _ nD
  have I3 : Inv X pins σ (upd H2 s2.heap.objs.size (MSetO X.prog X.w s2.heap.objs.size [])) { s2 with heap := s2.heap.push { cls := .type "set", dict := none, data := .set #[] 0 (.fresh 0 0 (!X.w.params.followText "set-order")) } } :=
    I2.laid (t' := s2.toks) (fun b o e => Heap.get?_push_of_some _ e) (Nat.le_refl _) mset_new
  have small : ∀ b ∈ fp, b < s2.heap.objs.size := fun b hb => (T.obj _ _ st2 b hb).elim fun o e => Heap.lt_size e.1
  have size3 : (s2.heap.push { cls := .type "set", dict := none, data := .set #[] 0 (.fresh 0 0 (!X.w.params.followText "set-order")) }).objs.size = s2.heap.objs.size + 1 := Heap.size_push ..
  have st3 : tn 0 (s2.heap.push { cls := .type "set", dict := none, data := .set #[] 0 (.fresh 0 0 (!X.w.params.followText "set-order")) }) := T.keep _ _ _ st2 fun b _ o e => Heap.get?_push_of_some _ e
  generalize hD : s2.heap.objs.size = D at *
  generalize hs3 : ({ s2 with heap := s2.heap.push { cls := .type "set", dict := none, data := .set #[] 0 (.fresh 0 0 (!X.w.params.followText "set-order")) } } : Shared) = s3 at *
  have h3 : s3.heap = s2.heap.push { cls := .type "set", dict := none, data := .set #[] 0 (.fresh 0 0 (!X.w.params.followText "set-order")) } := by rw [← hs3]
  have f3 : ∀ b ∈ fp, FpOk X pins (upd H2 D (MSetO X.prog X.w D [])) b ∧ b < s3.heap.objs.size := fun b hb => by
    have l := small b hb
    refine ⟨⟨?_, (f2 b hb).2⟩, by rw [h3, size3]; exact Nat.lt_succ_of_lt l⟩
    rw [upd_ne (Nat.ne_of_lt l)]
    exact (f2 b hb).1
  have I4 := block_start I3 ok hN f3
  have n0 : ∀ b ∈ fp, (upd H2 D (MSetO X.prog X.w D [])) b = none := fun b hb => (f3 b hb).1.1
  generalize hH3 : upd H2 D (MSetO X.prog X.w D []) = H3 at *
  have pg := hg s3 H3 s3.heap.objs.size (cellsFrom (s3.heap.objs.size + 1) scope.names (cloFrom X.env.cells scope.names [])) fp
  have pt := ht s3 H3 s3.heap.objs.size (cellsFrom (s3.heap.objs.size + 1) scope.names (cloFrom X.env.cells scope.names [])) fp
  have pe := he s3 H3 s3.heap.objs.size (cellsFrom (s3.heap.objs.size + 1) scope.names (cloFrom X.env.cells scope.names [])) fp
  have top : (compEnvC scope (cellsFrom (s3.heap.objs.size + 1) scope.names (cloFrom X.env.cells scope.names [])) s3.heap.objs.size X.env).locals = s3.heap.objs.size := rfl
  show codeAny _ _ (.compStart (.SetComp elt [⟨tg, iter, ifs, 0⟩] scope pos) 0 (.ref it) (.ref D) (compEnvC scope (cellsFrom (s3.heap.objs.size + 1) scope.names (cloFrom X.env.cells scope.names [])) s3.heap.objs.size X.env)) _ { s3 with heap := pushCells (s3.heap.push { cls := .type "dict", data := .dict #[] }) scope.names }
  generalize compEnvC scope (cellsFrom (s3.heap.objs.size + 1) scope.names (cloFrom X.env.cells scope.names [])) s3.heap.objs.size X.env = ce at I4 pg pt pe top ⊢
  have st4 : tn 0 ({ s3 with heap := pushCells (s3.heap.push { cls := .type "dict", data := .dict #[] }) scope.names } : Shared).heap := T.keep _ _ _ (h3 ▸ st3) fun b _ o e => pushCells_keeps _ _ _ _ (Heap.get?_push_of_some _ e)
  generalize ({ s3 with heap := pushCells (s3.heap.push { cls := .type "dict", data := .dict #[] }) scope.names } : Shared) = s4 at I4 st4 ⊢
  have fps : ∀ {σ' : L2.St} {H' : Hp} {s' : Shared}, Inv (X.blk s3 H3 scope ce fp) [] σ' H' s' → (∀ b ∈ fp, H' b = none) → ∀ b ∈ fp, FpOk (X.blk s3 H3 scope ce fp) [] H' b := fun {σ' H' s'} I' hn b hb =>
    ⟨hn b hb, (I'.ok.exf b hb).1, I'.ok.exfs b hb, .inl hb, fun x c e => (I'.ok.exf b hb).2 x c e, fun p hp => absurd (show p ∈ ([] : List (Addr × Obj)) ++ [] from hp) (by simp)⟩
  have loop : codeAny (model X.prog X.w) X.A (.compLoop (.SetComp elt [⟨tg, iter, ifs, 0⟩] scope pos) 0 (.ref it) (.ref D) ce) (compPost (model X.prog X.w) X.A X.xe none (EP X pins σ Q) (.ref D) s3.heap.objs.size) s4 := by
    refine PpSet.compLoopS_any (fun n s' => ∃ i H', Inv (X.blk s3 H3 scope ce fp) [] (wipe σ (own.map (·.2))) H' s' ∧ tn i s'.heap ∧ (∀ b ∈ fp, H' b = none) ∧ W i n H') ?_ m0 ⟨0, H3, I4, st4, n0, w0⟩
    rintro n s5 ⟨i, H5, I5, st5, n5, w5⟩
    rcases turn i n H5 w5 with ⟨stop, fin⟩ | ⟨go, Nx, next, step⟩
    · refine thnF (T.done (X.blk s3 H3 scope ce fp) rfl rfl rfl hc i [] s5 _ H5 (fun _ _ => False) I5 (fps I5 n5) st5 stop) fun r s6 ⟨hr, I6⟩ => ?_
      subst hr
      have I7 : Inv X pins σ H5 s6 := I3.call' (ch := fp) I6.os I6.base I6.hok I6.bare fun b hb => let f := (f3 b hb).1; ⟨f.2.2.2.1, f.2.1, f.2.2.2.2.1, f.2.2.2.2.2⟩
      have nC : H5 s3.heap.objs.size = none := by
        have := (show H5 ce.locals = none from I6.free)
        rwa [top] at this
      obtain ⟨m, hn, _⟩ := I6.loc
      have hn : s6.heap.Ns s3.heap.objs.size m := by
        have := (show s6.heap.Ns ce.locals m from hn)
        rwa [top] at this
      obtain ⟨g0, g1, g2, g3, g4, g5⟩ := I3.fpOk (Nat.le_refl _) nC
      exact ⟨m, hn, fun h'' sb => ⟨.ref D, H5, I7.turned (t' := s6.toks) (fun b o hb e => (sb.2 b hb).trans e) g0 g1 g3 g4 g5, rfl, fin⟩⟩
    · refine thnF (T.item (X.blk s3 H3 scope ce fp) rfl rfl rfl hc i [] s5 _ H5 (fun _ _ => False) I5 (fps I5 n5) st5 go) fun r s6 ⟨u, hr, h6⟩ => ?_
      subst hr
      refine thnF h6 fun _ s7 ⟨x, H7, I7, r7, y7, st7, n7⟩ => ?_
      refine thnF (pg.run _ s7 _ H7 x u _ (I7.pinned (fps I7 n7) (T.obj _ _ st7)) r7 (step x H7 y7)) fun _ s8 ⟨σ8, H8, I8, hw8, q8⟩ => ?_
      refine thnF (pt.run _ s8 σ8 H8 _ I8 q8) fun b s9 ⟨H9, I9, q9⟩ => ?_
      have on : ∀ {s' : Shared} {H' : Hp}, Inv (X.blk s3 H3 scope ce fp) ([] ++ pinsAt fp s7.heap) σ8 H' s' → Nx H' → ∃ m, m < n ∧ ∃ i H', Inv (X.blk s3 H3 scope ce fp) [] (wipe σ (own.map (·.2))) H' s' ∧ tn i s'.heap ∧ (∀ b ∈ fp, H' b = none) ∧ W i m H' := fun {s' H'} I' nx => by
        obtain ⟨m', hm, w'⟩ := next H' nx
        have pin : ∀ b ∈ fp, ∀ o, s7.heap.get? b = some o → s'.heap.get? b = some o ∧ H' b = none := fun b hb o e =>
          let z := I'.pin (b, o) (List.mem_append_right _ (List.mem_append_right _ (mem_pinsAt hb e)))
          ⟨z.1, z.2.1⟩
        refine ⟨m', hm, i + 1, H', (I'.unpinned (pins := [])).weak (by rw [← hw8, wipe_length]) (fun j v e => ?_), T.keep _ _ _ st7 fun b hb o e => (pin b hb o e).1, fun b hb => ?_, w'⟩
        · rw [← hw8] at e
          exact (wipe_some e).1
        · obtain ⟨o, e, _⟩ := T.obj _ _ st7 b hb
          exact (pin b hb o e).2
      cases b with
      | false =>
        simp only [Bool.false_eq_true, if_false] at q9 ⊢
        exact on I9 q9
      | true =>
        simp only [if_true] at q9 ⊢
        refine thnF (pe.run _ s9 σ8 H9 _ I9 q9) fun z s10 ⟨yv, H10, I10, r10, c, k, L, ey, ec, eD, al, few, nx⟩ => ?_
        subst ey
        cases r10
        exact add_mix (X := X.blk s3 H3 scope ce fp) hu I10 eD ec al few fun s11 L' y' n' I11 => on I11 (nx L' y' n')
  exact PpSet.codeAny_compStart_set loop (T.self X.A 0 _ _ _ st4 loop)
/-- how many it has -/
theorem call_lenM : CallR X (.builtin "len") (fun xs H Q => ∃ (a : Addr) (L : Keyed), xs = [.ref a] ∧ H a = some (MSetO X.prog X.w a L) ∧ Q (.int L.length) H) := by
  intro pins s σ H xs us Q I r h
  obtain ⟨a, L, rfl, ha, q⟩ := h
  obtain ⟨u, rfl, ru⟩ := vals1 r
  cases ru
  obtain ⟨es, ep, t, ⟨o, ho, hex, hd⟩, he, T, _, _, room, few⟩ := (I.hok a _ ha).1
  have ln := entries_len he
  have sz := T.sz
  rw [List.length_map] at sz
  refine call_len_set ho hex hd (fits_by (by omega) T.dm (by omega)) (by omega) ?_
  refine ⟨.int L.length, H, I.kept (t' := s.toks + 1 + 1) fun _ _ e => e, ⟨s.toks + 1, ?_⟩, q⟩
  rw [ln]
end
end Fb

/-! Part S3: sorted of steps: tuples of a room, a sign and a tuple, no two of the same room and sign. -/
namespace Fb
open PySem PySem.Spec PyProof.Rows L2
/-! ### the order -/
abbrev RS := Int × Str
def rsLt (a b : RS) : Bool := decide (a.1 < b.1) || (decide (a.1 = b.1) && decide (a.2.cps.toList < b.2.cps.toList))
theorem rsLt_iff {a b : RS} : rsLt a b = true ↔ a.1 < b.1 ∨ (a.1 = b.1 ∧ a.2.cps.toList < b.2.cps.toList) := by
  simp [rsLt]
theorem rsLt_irr (a : RS) : rsLt a a = false := by
  cases h : rsLt a a with
  | false => rfl
  | true =>
    rcases rsLt_iff.mp h with h | ⟨_, h⟩
    · omega
    · exact absurd h (List.lt_irrefl _)
theorem rsLt_trans {a b c : RS} (h1 : rsLt a b = true) (h2 : rsLt b c = true) : rsLt a c = true := by
  rcases rsLt_iff.mp h1 with h1 | ⟨e1, h1⟩ <;> rcases rsLt_iff.mp h2 with h2 | ⟨e2, h2⟩ <;> refine rsLt_iff.mpr ?_
  · left; omega
  · left; omega
  · left; omega
  · right; exact ⟨by omega, List.lt_trans h1 h2⟩
theorem str_ext {x y : Str} (h : x.cps.toList = y.cps.toList) : x = y := by
  cases x
  cases y
  congr 1
  exact Array.ext' h
theorem rsLt_total {a b : RS} (h1 : rsLt a b = false) (h2 : rsLt b a = false) : a = b := by
  have n1 : ¬ (a.1 < b.1 ∨ (a.1 = b.1 ∧ a.2.cps.toList < b.2.cps.toList)) := fun h => by rw [rsLt_iff.mpr h] at h1; cases h1
  have n2 : ¬ (b.1 < a.1 ∨ (b.1 = a.1 ∧ b.2.cps.toList < a.2.cps.toList)) := fun h => by rw [rsLt_iff.mpr h] at h2; cases h2
  have e1 : a.1 = b.1 := by
    have : ¬ a.1 < b.1 := fun h => n1 (.inl h)
    have : ¬ b.1 < a.1 := fun h => n2 (.inl h)
    omega
  have l1 : ¬ a.2.cps.toList < b.2.cps.toList := fun h => n1 (.inr ⟨e1, h⟩)
  have l2 : ¬ b.2.cps.toList < a.2.cps.toList := fun h => n2 (.inr ⟨e1.symm, h⟩)
  have e2 : a.2 = b.2 := str_ext (List.le_antisymm (List.not_lt.mp l2) (List.not_lt.mp l1))
  exact Prod.ext e1 e2
/-- how many of l stand before k -/
def rk (l : List RS) (k : RS) : Int := (l.countP fun x => rsLt x k : Nat)
theorem countP_le {α : Type} {p q : α → Bool} : ∀ {l : List α}, (∀ x ∈ l, p x = true → q x = true) → l.countP p ≤ l.countP q
  | [], _ => Nat.le_refl _
  | x :: l, h => by
    have ih := countP_le (p := p) (q := q) (l := l) fun y hy => h y (List.mem_cons_of_mem _ hy)
    have hx := h x List.mem_cons_self
    rw [List.countP_cons, List.countP_cons]
    cases e : p x
    · simp only [Bool.false_eq_true, if_false]
      omega
    · rw [hx e]
      omega
theorem countP_lt {α : Type} {p q : α → Bool} : ∀ {l : List α}, (∀ x ∈ l, p x = true → q x = true) → (∃ x ∈ l, p x = false ∧ q x = true) → l.countP p < l.countP q
  | [], _, h => by simp at h
  | x :: l, h, ⟨y, hy, py, qy⟩ => by
    have le := countP_le (p := p) (q := q) (l := l) fun y hy => h y (List.mem_cons_of_mem _ hy)
    have hx := h x List.mem_cons_self
    rw [List.countP_cons, List.countP_cons]
    rcases List.mem_cons.mp hy with rfl | hy
    · rw [py, qy]
      simp only [Bool.false_eq_true, if_false, if_true]
      omega
    · have lt := countP_lt (p := p) (q := q) (l := l) (fun y hy => h y (List.mem_cons_of_mem _ hy)) ⟨y, hy, py, qy⟩
      cases e : p x
      · simp only [Bool.false_eq_true, if_false]
        omega
      · rw [hx e]
        omega
theorem rk_lt {l : List RS} {a b : RS} (ha : a ∈ l) (hb : b ∈ l) : decide (rk l a < rk l b) = rsLt a b := by
  cases h : rsLt a b with
  | true =>
    refine decide_eq_true ?_
    have := countP_lt (p := fun x => rsLt x a) (q := fun x => rsLt x b) (l := l) (fun x _ hx => rsLt_trans hx h) ⟨a, ha, rsLt_irr a, h⟩
    unfold rk
    omega
  | false =>
    refine decide_eq_false ?_
    have : (l.countP fun x => rsLt x b) ≤ l.countP fun x => rsLt x a := by
      cases h2 : rsLt b a with
      | true => exact countP_le fun x _ hx => rsLt_trans hx h2
      | false => rw [rsLt_total h h2]; exact Nat.le_refl _
    unfold rk
    omega
/-! ### steps in the model's heap -/
section
variable {P : Program} {w : World}
/-- v is a tuple of the room and the sign of k, and a tuple -/
def StepIn (P : Program) (w : World) (h : Heap) (v : Value) (k : RS) : Prop :=
  ∃ (t wa : Addr) (o : Obj) (n : Nat) (t1 t2 : Tok) (ks : List Key), v = .ref t ∧ h.get? t = some o ∧ o.cls = .type "tuple" ∧ o.data = .seq #[.int k.1 t1, .str k.2 t2, .ref wa] n ∧ IsTupleKey (mixKind P w) h ks wa
theorem StepIn.keeps {h h' : Heap} {v : Value} {k : RS} (x : StepIn P w h v k) (kp : ∀ b o, h.get? b = some o → o.cls = .type "tuple" → h'.get? b = some o) : StepIn P w h' v k := by
  obtain ⟨t, wa, o, n, t1, t2, ks, e, ho, hc, hd, o3, it3, n3, ho3, hc3, r3⟩ := x
  exact ⟨t, wa, o, n, t1, t2, ks, e, kp _ _ ho hc, hc, hd, o3, it3, n3, kp _ _ ho3 hc3, hc3, r3⟩
theorem firsts {h : Heap} {kf : Value → RS} : ∀ vs : List Value, (∀ v ∈ vs, StepIn P w h v (kf v)) → ∃ fs : List Value, PySem.W.KatTups h vs fs ∧ fs.length = vs.length ∧ ∀ f ∈ fs, ∃ i t, f = Value.int i t
  | [], _ => ⟨[], PySem.W.KatTups.nil, rfl, fun f hf => by cases hf⟩
  | v :: vs, x => by
    obtain ⟨fs, k, hl, hi⟩ := firsts vs fun u hu => x u (List.mem_cons_of_mem _ hu)
    obtain ⟨t, wa, o, n, t1, t2, ks, rfl, ho, hc, hd, _⟩ := x v List.mem_cons_self
    refine ⟨.int _ t1 :: fs, PySem.W.KatTups.cons ho hc hd rfl k, by rw [List.length_cons, List.length_cons, hl], fun f hf => ?_⟩
    rcases List.mem_cons.mp hf with rfl | hf
    · exact ⟨_, _, rfl⟩
    · exact hi f hf
theorem kind_steps {A : Around} {E : Value → Shared → Prop} {s : Shared} {vs : List Value} {kf : Value → RS} {r : Value → Int} (h2 : 2 ≤ vs.length) (hu : A.units < cLine) (x : ∀ v ∈ vs, StepIn P w s.heap v (kf v)) (one : ∀ v ∈ vs, ∀ u ∈ vs, kf v = kf u → v = u)
    (hr : ∀ v ∈ vs, ∀ u ∈ vs, decide (r v < r u) = rsLt (kf v) (kf u)) (Q : SortKind → Shared → Prop) (h : ∀ κ, TS.Cmp P w A s κ (pairsOf vs) r → Q κ s) : wpAny (model P w) A (keyKind' vs.toArray) Q E s := by
  obtain ⟨fs, k, hl, hi⟩ := firsts vs x
  refine PySem.W.kat_kind (T := Value.type "int") k (by omega) (fun f hf => ?_) rfl (h _ ?_)
  · obtain ⟨i, t, rfl⟩ := hi f hf
    exact PySem.W.Looks.of_pure rfl
  · intro p q hp hq Q' E' hQ
    rw [pairsOf_toList] at hp hq
    have mp := (mem_zip_self hp).2
    have mq := (mem_zip_self hq).2
    have hQ : Q' (rsLt (kf p.1) (kf q.1)) s := by
      rw [← hr _ mp _ mq]
      exact hQ
    have same := one _ mp _ mq
    obtain ⟨t, wa, o, n, t1, t2, ks, e1, ho, hc, hd, kw⟩ := x _ mp
    obtain ⟨t', wa', o', n', t1', t2', ks', e2, ho', hc', hd', kw'⟩ := x _ mq
    rw [e1, e2]
    rw [e1, e2] at same
    have same : kf p.1 = kf q.1 → t = t' := fun e => by
      rw [e1, e2] at e
      have := same e
      cases this
      rfl
    generalize kf p.1 = a at *
    generalize kf q.1 = b at *
    refine PySem.W.kat_lt ho hd ho' hd' ?_
    show PySem.W.KatLex P w A true false Q' [(.int a.1 t1, .int b.1 t1'), (.str a.2 t2, .str b.2 t2'), (.ref wa, .ref wa')] 0 s
    refine PySem.W.kat_cons (wpAny_eqBool_int ?_)
    refine PySem.W.kat_go (fun e => PySem.W.kat_yes ?_) (fun e => PySem.W.kat_no ?_)
    · have e := of_decide_eq_true e
      refine PySem.W.kat_cons (wpAny_eqBool_str ?_)
      refine PySem.W.kat_go (fun e' => PySem.W.kat_yes ?_) (fun e' => PySem.W.kat_no ?_)
      · have e' := of_decide_eq_true e'
        have ab : a = b := Prod.ext e e'
        have tt := same ab
        subst tt
        rw [ho] at ho'
        cases ho'
        rw [hd] at hd'
        have hw : wa = wa' := by
          have := (Data.seq.inj hd').1
          simp at this
          exact this.2.2
        subst hw
        rw [ab, rsLt_irr] at hQ
        refine PySem.W.kat_cons (wpAny_eqBool_tuple hu kw kw ?_)
        refine PySem.W.kat_go (fun _ => PySem.W.kat_yes (PySem.W.kat_nil hQ)) (fun z => ?_)
        rw [decide_eq_true rfl] at z
        cases z
      · show wpAny _ _ (oneLt' false _ _) _ _ _
        refine PySem.W.kat_one _ _ (lt_str ?_)
        have : rsLt a b = decide (a.2.cps.toList < b.2.cps.toList) := by
          unfold rsLt
          rw [decide_eq_false (by omega), decide_eq_true e]
          rfl
        rw [this] at hQ
        exact hQ
    · show wpAny _ _ (oneLt' true _ _) _ _ _
      refine oneLt_int ?_
      have ne : ¬ a.1 = b.1 := by simpa using e
      have : rsLt a b = decide (a.1 < b.1) := by
        unfold rsLt
        rw [decide_eq_false ne, Bool.false_and, Bool.or_false]
      rw [this] at hQ
      exact hQ
theorem sort_steps {A : Around} {E : Value → Shared → Prop} {s : Shared} {a : Addr} {vs : List Value} {n : Nat} {Q : PySem.Fin → Shared → Prop} {kf : Value → RS} (ho : s.heap.get? a = some (seqObj "list" vs.toArray n)) (h64 : vs.length < 64) (hu : A.units < cLine)
    (x : ∀ v ∈ vs, StepIn P w s.heap v (kf v)) (one : ∀ v ∈ vs, ∀ u ∈ vs, kf v = kf u → v = u)
    (h : ∀ out : Array Value, out.toList.Perm vs → out.toList.Pairwise (fun u v => rsLt (kf v) (kf u) = false) → Q (.done (.ret .none)) { s with heap := sortedHeap s.heap a vs out }) : wpAny (model P w) A (Builtin.«list.sort» ⟨[.ref a], []⟩) Q E s := by
  have keep : ∀ b o, s.heap.get? b = some o → o.cls = .type "tuple" → (TS.midHeap s.heap a vs).get? b = some o := fun b o e hc => by
    refine TS.midHeap_old ?_ e
    rintro rfl
    rw [ho] at e
    cases e
    exact absurd (Value.type.inj hc) (by decide)
  have hr : ∀ v ∈ vs, ∀ u ∈ vs, decide (rk (vs.map kf) (kf v) < rk (vs.map kf) (kf u)) = rsLt (kf v) (kf u) := fun v hv u hu => rk_lt (List.mem_map_of_mem hv) (List.mem_map_of_mem hu)
  refine SK.plain_sort (r := fun v => rk (vs.map kf) (kf v)) ho h64 (fun h2 Q' hQ => ?_) fun ps out h1 h2 h3 => ?_
  · exact kind_steps (s := { s with heap := TS.midHeap s.heap a vs }) h2 hu (fun v hv => (x v hv).keeps keep) one hr Q' hQ
  · obtain ⟨p, o⟩ := TS.out_rank (r := fun v => rk (vs.map kf) (kf v)) h1 h2 h3
    refine h out p (List.Pairwise.imp_of_mem (fun {u v} hu hv hle => ?_) o)
    rw [← hr v (p.mem_iff.mp hv) u (p.mem_iff.mp hu)]
    exact decide_eq_false (by omega)
end
section
variable {X : Cx}
theorem step_in {pins : List (Addr × Obj)} {σ : L2.St} {H : Hp} {s : Shared} (I : Inv X pins σ H s) {t wa : Addr} {k : RS} {ks : List Key} (h : H t = some (.tup [.int k.1, .str k.2, .ref wa])) (hw : H wa = some (.tup (ks.map kV))) : StepIn X.prog X.w s.heap (.ref t) k := by
  obtain ⟨_, its, r, o, ho, hc, n, hd⟩ := (show ObjOk X.prog X.w H s.heap t _ from I.hok t _ h)
  cases r with
  | cons r1 r =>
  cases r with
  | cons r2 r =>
  cases r with
  | cons r3 r =>
  cases r
  obtain ⟨t1, rfl⟩ := r1
  obtain ⟨t2, rfl⟩ := r2
  cases r3
  exact ⟨t, wa, o, n, t1, t2, ks, rfl, ho, hc, hd, mix_at I hw⟩
/-- sorted(xs), xs a list of steps, no two of the same room and sign -/
def rSortS (K : PySem.W.Frag) : List V → Hp → VK → Prop := fun vs H Q => ∃ (a : Addr) (xs : List V) (kf : V → RS), vs = [V.ref a] ∧ SqL K H a xs ∧ xs.length < 64 ∧ (∀ x ∈ xs, ∃ t wa ks, x = .ref t ∧ H t = some (.tup [.int (kf x).1, .str (kf x).2, .ref wa]) ∧ H wa = some (.tup (List.map kV ks))) ∧
  (∀ x ∈ xs, ∀ y ∈ xs, kf x = kf y → x = y) ∧ ∀ (ys : List V) (p : Addr), ys.Perm xs → ys.Pairwise (fun x y => rsLt (kf y) (kf x) = false) → H p = none → Q (.ref p) (upd H p (.lst ys))
theorem cr_sortS (hu : X.A.units + 2 < cLine) : CallR X (.builtin "sorted") (rSortS X.K) := by
  intro pins s σ H vs us Q I r h
  obtain ⟨a, xs, kf, rfl, hs, h64, hx, one, q⟩ := h
  obtain ⟨its, rv, hl, hz⟩ := I.list hs
  rw [Vals.ref1 r]
  obtain ⟨e1, e2⟩ := bkV_refs rv fun x m => by
    obtain ⟨t, _, _, e, _⟩ := hx x m
    exact ⟨t, e⟩
  have st : ∀ v ∈ its, StepIn X.prog X.w s.heap v (kf (bkV v)) := fun v hv => by
    obtain ⟨t, rfl⟩ := e2 v hv
    obtain ⟨t', wa, ks, e, h1, h2⟩ := hx (.ref t) (by rw [e1]; exact List.mem_map.mpr ⟨_, hv, rfl⟩)
    cases e
    exact step_in I h1 h2
  have on : ∀ v ∈ its, ∀ u ∈ its, kf (bkV v) = kf (bkV u) → v = u := fun v hv u hu e => by
    have := one (bkV v) (by rw [e1]; exact List.mem_map_of_mem hv) (bkV u) (by rw [e1]; exact List.mem_map_of_mem hu) e
    obtain ⟨t, rfl⟩ := e2 v hv
    obtain ⟨t', rfl⟩ := e2 u hu
    cases this
    rfl
  have n64 : its.length < 64 := by rw [← rv.length]; exact h64
  refine Calls.call_function_entry kind_sorted plain_sorted entry_sorted (args_sorted1 _) ?_
  unfold Builtin.«sorted»
  refine wpAny_bind (m := checkCount "sorted" 1 1 _) (wpAny_pure ?_)
  refine wpAny_bind (collect_list hl.isList ?_ (by rw [sizeLine_eq]; omega))
  refine wpAny_bind (wpAny_newList ?_ (by rw [sizeLine_eq]; omega))
  have sz : ((s.heap.push (seqObj "list" #[] 0)).update s.heap.objs.size (Obj.mapSeq (· ++ its.toArray))).objs.size = s.heap.objs.size + 1 := (Heap.size_update ..).trans (size_push' _ _)
  have new : (((s.heap.push (seqObj "list" #[] 0)).update s.heap.objs.size (Obj.mapSeq (· ++ its.toArray))).push (seqObj "list" its.toArray 0)).get? (s.heap.objs.size + 1) = some (seqObj "list" its.toArray 0) := sz ▸ Heap.get?_push_size _ rfl
  have old : ∀ b o, s.heap.get? b = some o → (((s.heap.push (seqObj "list" #[] 0)).update s.heap.objs.size (Obj.mapSeq (· ++ its.toArray))).push (seqObj "list" its.toArray 0)).get? b = some o := fun b o e => by
    have l : b < s.heap.objs.size := Heap.lt_size e
    rw [Heap.get?_push_ne _ _ _ (by rw [sz]; exact Nat.ne_of_lt (Nat.lt_succ_of_lt l)), Heap.get?_update_ne _ _ _ _ (Nat.ne_of_lt l), Heap.get?_push_ne _ _ _ (Nat.ne_of_lt l)]
    exact e
  show wpAny _ _ _ _ _ { s with heap := ((s.heap.push (seqObj "list" #[] 0)).update s.heap.objs.size (Obj.mapSeq (· ++ its.toArray))).push (seqObj "list" its.toArray 0) }
  rw [sz]
  refine wpAny_bind (wpAny_holding (wpAny_call_entry slot_list_sort ⟨_, new, rfl⟩ entry_list_sort (sort_steps (kf := fun v => kf (bkV v)) new n64 (by show X.A.units + 2 < cLine; exact hu) (fun v hv => (st v hv).keeps fun b o e _ => old b o e) on fun out a1 a2 => ⟨_, rfl, ?_⟩) (args_list_sort _)))
  refine wpAny_pure ⟨_, rfl, ?_⟩
  obtain ⟨ep, he'⟩ := PyProof.Rows.sortedAll_at s.heap its out
  have h3 : ∀ u ∈ out.toList, ∃ a, u = Value.ref a := fun u hu => e2 u (a1.mem_iff.mp hu)
  have hp : (out.toList.map bkV).Perm xs := by
    rw [e1]
    exact a1.map bkV
  refine ⟨.ref _, upd H (s.heap.objs.size + 1) (.lst (out.toList.map bkV)), I.laid (t' := s.toks) (fun _ _ => PyProof.Rows.sortedAll_old) (Nat.le_succ _) ⟨by rw [hp.length_eq]; exact hz, out.toList, ep, bkV_vals h3, he'⟩, rfl, q _ _ hp ?_ (I.hok.fresh (Nat.le_succ _))⟩
  rw [List.pairwise_map]
  exact a2
end
end Fb

/-! Part S4: enumerate of a tuple. -/
namespace Fb
open PySem PySem.Spec PyProof.Rows L2
open AutoSeq1 (wpAny_loadPart')
set_option maxHeartbeats 1000000 in
theorem meets_enumT (l : Addr) (items : Array Value) :
    Meets (Builtin.«enumerate.__new__» ⟨[.type "enumerate", .ref l], []⟩) (fun _ R s => s.heap.IsTuple l items ∧
      R (.ok (.ret (.ref (s.heap.push { cls := .type "tuple_iterator", data := .fields #[.ref l, .int 0 0] }).objs.size)))
        { s with heap := (s.heap.push { cls := .type "tuple_iterator", data := .fields #[.ref l, .int 0 0] }).push { cls := .type "enumerate", data := .fields #[.none, .bool false, .ref s.heap.objs.size, rawInt 0, .none, .none] } }) :=
  .of_wp fun prog w A R s h => by
    obtain ⟨hp, g, d, tk, os⟩ := s; obtain ⟨hL, h⟩ := h
    have hsub := sub_enumerate
    have q1 : ∀ {A' : Around} {E : Value → Shared → Prop} {Q : Value → Shared → Prop}, Q (.ref hp.objs.size) ⟨hp.push { cls := .type "tuple_iterator", data := .fields #[.ref l, .int 0 0] }, g, d, tk, os⟩ → wpAny (model prog w) A' (pyIter (.ref l)) Q E ⟨hp, g, d, tk, os⟩ :=
      fun q => wpAny_pyIter_tuple hL q
    wp_walk using q1
    refine wpAny_stack_any fun st => wpAny_pure ?_
    split
    · rename_i c _ _ _ _ _
      cases (c == Value.type "enumerate")
      · wp_walk using q1
        exact ⟨_, rfl, h⟩
      · wp_walk using q1
        exact ⟨_, rfl, h⟩
    · wp_walk using q1
      exact ⟨_, rfl, h⟩
theorem call_enumT {prog : Program} {w : World} {A : Around} {E : Value → Shared → Prop} {s : Shared} {l : Addr} {items : Array Value} {Q : Value → Shared → Prop} (hL : s.heap.IsTuple l items)
    (h : ∀ h', IsEnum h' (s.heap.objs.size + 1) s.heap.objs.size 0 .none → h'.IsTupleIter s.heap.objs.size l 0 → h'.objs.size = s.heap.objs.size + 2 →
      (∀ b o, s.heap.get? b = some o → h'.get? b = some o) → Q (.ref (s.heap.objs.size + 1)) { s with heap := h' }) :
    wpAny (model prog w) A (call (.type "enumerate") [.ref l]) Q E s := by
  refine callType_new F.called_enumerate (by decide) (F.typeCall_enumerate_1 _) (F.newCall_enumerate_1 _) (fun obj => F.args_object_init_2 obj _) F.entry_enumerate_new
    (meets_enumT l items) ⟨hL, ?_⟩
  have hz : (s.heap.push { cls := .type "tuple_iterator", data := .fields #[.ref l, .int 0 0] }).objs.size = s.heap.objs.size + 1 := Heap.size_push ..
  show _ ∧ _
  rw [hz]
  have he : IsEnum ((s.heap.push { cls := .type "tuple_iterator", data := .fields #[.ref l, .int 0 0] }).push
      { cls := .type "enumerate", data := .fields #[.none, .bool false, .ref s.heap.objs.size, rawInt 0, .none, .none] }) (s.heap.objs.size + 1) s.heap.objs.size 0 .none := by
    have := Heap.get?_push_size (s.heap.push { cls := .type "tuple_iterator", data := .fields #[.ref l, .int 0 0] })
      (o := { cls := .type "enumerate", data := .fields #[.none, .bool false, .ref s.heap.objs.size, rawInt 0, .none, .none] }) rfl
    rw [hz] at this; exact this
  refine ⟨⟨_, he, rfl⟩, h _ he ⟨_, Heap.get?_push_of_some _ (Heap.get?_push_size _ rfl), rfl, rfl⟩ (by rw [Heap.size_push, hz]) fun b o x => Heap.get?_push_of_some _ (Heap.get?_push_of_some _ x)⟩
/-- the tuple at a, each item in a new pair -/
def IteT (K : PySem.W.Frag) (a : Addr) : It :=
  ⟨fun i H => ∃ (xs : List V) (x : V), SqT K H a xs ∧ xs[i]? = some x, fun i H v H' => ∃ T x, v = .ref T ∧ H T = none ∧ H' = upd H T (.tup [.int (i : Nat), x]) ∧ ∀ xs, SqT K H a xs → xs[i]? = some x, fun i H => ∃ xs : List V, SqT K H a xs ∧ xs.length ≤ i⟩
theorem turn_enumT {P : Program} {w : World} {K : PySem.W.Frag} {elts : List Expr} {kk : Nat} {tpos : Pos} (a e it : Addr) :
    Turn P w K (.Tuple elts kk tpos) (IteT K a) [e, it] e (fun i h => (∃ old, IsEnum h e it ((i : Nat) : Int) old) ∧ h.IsTupleIter it a i ∧ e ≠ it) where
  mem := by simp
  obj := fun i h st b hb => by
    obtain ⟨⟨old, he⟩, ⟨o, ho, hc, hd⟩, _⟩ := st
    have e' : b = e ∨ b = it := by simpa using hb
    rcases e' with z | z
    · rw [z]; exact ⟨_, he, fun v q => nomatch q⟩
    · rw [z]; exact ⟨o, ho, fun v q => by rw [hd] at q; cases q⟩
  keep := fun i h h' st k => let ⟨⟨old, he⟩, hi, hne⟩ := st; ⟨⟨old, k e (by simp) _ he⟩, hi.at fun o q => k it (by simp) o q, hne⟩
  item := by
    intro X hP hw hK hc i pins s σ H E I hf st hg
    subst hP hw hK
    obtain ⟨⟨old, he⟩, hit, hne⟩ := st
    obtain ⟨xs, x, hq, hx⟩ := hg
    obtain ⟨its, rv, p, hz⟩ := I.tuple hq
    obtain ⟨u, hu, ru⟩ := rv.get hx
    have hel : e < s.heap.objs.size := Heap.lt_size he
    have hil : it < s.heap.objs.size := by obtain ⟨_, q, _⟩ := hit; exact Heap.lt_size q
    have pt : s.heap.IsTuple a its.toArray := p
    have hai : a ≠ it := by
      rintro rfl
      obtain ⟨o1, e1, c1, _⟩ := pt
      obtain ⟨o2, e2, c2, _⟩ := hit
      rw [e1] at e2
      cases e2
      rw [c1] at c2
      exact absurd (Value.type.inj c2) (by decide)
    have hea : e ≠ a := by
      rintro rfl
      obtain ⟨o1, e1, c1, _⟩ := pt
      have e2 := e1.symm.trans he
      cases e2
      exact absurd (Value.type.inj c1) (by decide)
    have hil' : i < its.toArray.size := by
      have := (List.getElem?_eq_some_iff.mp hu).1
      simpa using this
    refine wpAny_pyNext_enum_itemD (Draws.tuple (prog := X.prog) (w := X.w) (A := X.A.in1) (show X.A.in1.handled = none from I.ok.hd hc) it a hai its.toArray) he ⟨hit, pt⟩ hil' hne (by simp [hne, hea]) fun x' h' tk hP ho hst hT hsz hk => ?_
    have hux : x' = u := by
      have h1 : its[i]? = some x' := by simpa using hP
      rw [hu] at h1
      exact (Option.some.inj h1).symm
    subst hux
    obtain ⟨hit', _⟩ := hst
    refine ⟨_, rfl, wpAny_letOwnedTupleGo_enum (s := { s with heap := h', toks := tk + 1 }) ho fun h'' he' sb => ?_⟩
    have hT2 : h''.get? s.heap.objs.size = some { cls := .type "tuple", data := .seq #[.int i tk, x'] } := (sb.2 _ (Nat.ne_of_gt hel)).trans hT
    have new : ObjOk X.prog X.w (upd H s.heap.objs.size (.tup [.int (i : Nat), x])) h'' s.heap.objs.size (.tup [.int (i : Nat), x]) :=
      ⟨by show 2 ≤ sizeLine; decide, [.int i tk, x'], .cons ⟨_, rfl⟩ (.cons ru .nil), ⟨_, hT2, rfl, _, rfl⟩⟩
    have I1 : Inv X pins σ (upd H s.heap.objs.size (.tup [.int (i : Nat), x])) { s with heap := h'', toks := tk + 1 } :=
      I.turnedNew (ch := [e, it]) (fun b ob hb q => (sb.2 b (fun z => hb (by simp [z]))).trans (hk b ob (fun z => hb (by simp [z])) (fun z => hb (by simp [z])) q)) hf (Nat.le_refl _) new
    refine ⟨.ref s.heap.objs.size, _, I1, rfl, ⟨_, x, rfl, I.hok.fresh (Nat.le_refl _), rfl, fun ys hy => by rw [I.tuple_inj hy hq]; exact hx⟩, ⟨⟨x', ?_⟩, hit'.at fun o q => (sb.2 it (Ne.symm hne)).trans q, hne⟩, fun b hb => ?_⟩
    · have e1 : ((i + 1 : Nat) : Int) = (i : Int) + 1 := by omega
      rw [e1]; exact he'
    · have hb' : b < s.heap.objs.size := by
        have e' : b = e ∨ b = it := by simpa using hb
        rcases e' with z | z
        · rw [z]; exact hel
        · rw [z]; exact hil
      rw [upd_ne (Nat.ne_of_lt hb')]
      exact (hf b hb).1
  done := by
    intro X hP hw hK hc i pins s σ H E I hf st hg
    subst hP hw hK
    obtain ⟨⟨old, he⟩, hit, hne⟩ := st
    obtain ⟨xs, hq, hx⟩ := hg
    obtain ⟨its, rv, p, hz⟩ := I.tuple hq
    obtain ⟨f0, f1, f2, f3, f4, f5⟩ := hf it (by simp)
    have hl := rv.length
    have hT : s.TypeIs (.ref e) "enumerate" := ⟨_, he, rfl⟩
    unfold pyNext
    refine wpAny_bind (wpAny_attempt (wpAny_callSpecial?_slot (name := Str.ofString "__next__") hT F.slot_enumerate_next
      (wpAny_call_entry F.slot_enumerate_next hT F.entry_enumerate_next ?_ (F.args_enumerate_next_1 _))))
    show wpAny _ _ (field (.ref e) 2 >>= _) _ _ _
    refine wpAny_bind (wpAny_field he rfl (x := .ref it) rfl ?_)
    refine wpAny_bind (wpAny_nextOf_tuple_end (I.ok.hd hc) hit p (by simp; omega) fun h' x he' hx' => ?_)
    obtain ⟨o, ho, hc⟩ := hx'
    refine wpAny_bind (wpAny_isInstance (T := "StopIteration") (b := true) ⟨o, ho, hc⟩ isSubtype_stop ?_)
    exact wpAny_pure ⟨rfl, I.turned (t' := s.toks) (fun b o hb q => he' b o hb q) f0 f1 f3 f4 f5⟩
  self := fun A i s Q E st h => let ⟨⟨_, he⟩, _⟩ := st; wpAny_pyIter_enum he h
def iEnumT (K : PySem.W.Frag) (ta : TA) : TI := fun σ H R => ta σ H fun vs H1 => ∃ a xs, vs = [.ref a] ∧ SqT K H1 a xs ∧ R (IteT K a) H1
theorem pi_enumT {X : Cx} {e : Expr} {ta : TA} {p pos tpos : Pos} {elts : List Expr} {kk : Nat} (hg : Gl X "enumerate") (hm : X.mg "enumerate" = none) (ha : PA X [e] ta) (hs : starEach [e] X.env = [(false, eval e X.env)] := by rfl) :
    PI X (.Tuple elts kk tpos) (.Call (.Name "enumerate" p) [e] [] pos) (iEnumT X.K ta) := by
  refine ⟨fun pins s σ H R I h => ?_⟩
  refine Call_ (ld_blt I hg hm boot_enumerate (PyProof.Rows.callWith_type1 (thn (ha.run pos pins s σ H _ I h) fun us s1 ⟨vs, H1, I1, r1, q1⟩ => ?_) hs rfl))
  obtain ⟨a, xs, ex, hq, q⟩ := q1
  subst ex
  cases r1 with
  | cons r rr =>
    cases rr
    cases r
    obtain ⟨its, rv, p', hz⟩ := I1.tuple hq
    refine call_enumT p' fun h' he hit hsz hk => wpAny_pyIter_enum he ?_
    have I2 : Inv X pins σ H1 { s1 with heap := h' } := I1.kept (t' := s1.toks) hk
    refine ⟨s1.heap.objs.size + 1, [s1.heap.objs.size + 1, s1.heap.objs.size], _, _, H1, rfl, I2, turn_enumT a (s1.heap.objs.size + 1) s1.heap.objs.size, ⟨⟨.none, he⟩, hit, Nat.succ_ne_self _⟩, fun b hb => ?_, q⟩
    have e' : b = s1.heap.objs.size + 1 ∨ b = s1.heap.objs.size := by simpa using hb
    have hle : s1.heap.objs.size ≤ b := by
      rcases e' with z | z
      · rw [z]; exact Nat.le_add_right _ _
      · rw [z]; exact Nat.le_refl _
    exact I1.fpOk hle (I1.hok.fresh hle)
theorem walk_enumT {K : PySem.W.Frag} {a : Addr} {xs : List V} : Walk (IteT K a) xs.length (fun H => SqT K H a xs) (YPair (fun i => some (.int (i : Nat))) (fun i => xs[i]?)) := by
  refine ⟨fun i _ hi q => ⟨xs, xs[i], q, by simp [hi]⟩, fun _ q => ⟨xs, q, Nat.le_refl _⟩, fun i H v H' _ q y => ?_⟩
  obtain ⟨T, x, h1, h2, h3, h4⟩ := y
  exact ⟨T, .int (i : Nat), x, h1, h2, h3, rfl, h4 xs q⟩
section
variable {J : It} {n : Nat} {G : Hp → Prop} {Y : Nat → Hp → V → Hp → Prop}
/-- [e for x in .. if ..]: just those that are let by -/
theorem lc_filtW (w : Walk J n G Y) {g : TG} {tt : TT} {te : TE} {vs : List Nat} {σ : L2.St} {H1 : Hp} {D : Addr} {Qd : Hp → Prop} (t : Nat → Bool) (R : Nat → V → Hp → Prop) (mono : ∀ i v H H', Same H H' → R i v H → R i v H')
    (hD : H1 D = none) (hS : ∀ H, Same H1 H → G H) (hz : n ≤ 1000)
    (hs : ∀ (i : Nat) x H H' (kt : V → Hp → Prop) (kf : Hp → Prop), i < n → Same H1 (hid D H) → (∃ ys, H D = some (.lst ys)) → Y i H x H' → (t i = true → ∀ y H4, Same H H4 → R i y (hid D H4) → kt y H4) → (t i = false → ∀ H4, Same H H4 → kf H4) →
      g x (wipe σ vs) H' fun σ2 H2 => wipe σ2 vs = wipe σ vs ∧ tt σ2 H2 fun b H3 => if b = true then te σ2 H3 kt else kf H3)
    (hd : ∀ H ys, Same H1 (hid D H) → H D = some (.lst ys) → AllAre (fun y i => R i y (hid D H)) ys ((List.range n).filter t) → Qd H) :
    ∃ W : Nat → Nat → Hp → Prop, (∃ m, W 0 m (upd H1 D (.lst []))) ∧ ∀ i m H, W i m H →
      (J.stop i H ∧ Qd H) ∨ (J.go i H ∧ ∃ Nx : Hp → Prop, (∀ H', Nx H' → ∃ m', m' < m ∧ W (i + 1) m' H') ∧ ∀ x H', J.yld i H x H' → g x (wipe σ vs) H' fun σ2 H2 => wipe σ2 vs = wipe σ vs ∧ tt σ2 H2 fun b H3 =>
        if b = true then te σ2 H3 fun y H4 => ∃ acc, H4 D = some (.lst acc) ∧ acc.length < sizeLine ∧ Nx (upd H4 D (.lst (acc ++ [y]))) else Nx H3) := by
  refine lc_it w (fun i H => ∃ ys, Same H1 (hid D H) ∧ H D = some (.lst ys) ∧ AllAre (fun y j => R j y (hid D H)) ys ((List.range i).filter t)) ⟨[], ?_, upd_same, .nil⟩ (fun i H _ h => ?_) (fun i x H H' hi h y => ?_) (fun H h => ?_)
  · intro b o e
    rw [hid_ne (ne_of_none e hD), upd_ne (ne_of_none e hD)]
    exact e
  · obtain ⟨ys, s, _⟩ := h
    exact hS H (s.trans hid_same)
  · obtain ⟨ys, s, e, a⟩ := h
    refine hs i x H H' (fun y H4 => ∃ acc, H4 D = some (.lst acc) ∧ acc.length < sizeLine ∧ ∃ ys, Same H1 (hid D (upd H4 D (.lst (acc ++ [y])))) ∧ (upd H4 D (.lst (acc ++ [y]))) D = some (.lst ys) ∧ AllAre (fun y' j => R j y' (hid D (upd H4 D (.lst (acc ++ [y]))))) ys ((List.range (i + 1)).filter t)) (fun H3 => ∃ ys, Same H1 (hid D H3) ∧ H3 D = some (.lst ys) ∧ AllAre (fun y j => R j y (hid D H3)) ys ((List.range (i + 1)).filter t)) hi s ⟨_, e⟩ y (fun ht y H4 s4 r4 => ?_) (fun hf H4 s4 => ?_)
    · have ll : ys.length < 1000 := by
        have h1 := a.1
        have h2 := List.length_filter_le t (List.range i)
        rw [List.length_range] at h2
        omega
      refine ⟨ys, s4 _ _ e, small1000 (by omega), ys ++ [y], ?_, upd_same, ?_⟩
      · rw [hid_upd]
        exact s.trans (hid_mono s4)
      · rw [hid_upd, List.range_succ, List.filter_append, List.filter_cons_of_pos ht, List.filter_nil]
        exact AllAre.snoc (a.imp fun _ _ r => mono _ _ _ _ (hid_mono s4) r) r4
    · refine ⟨ys, s.trans (hid_mono s4), s4 _ _ e, ?_⟩
      rw [List.range_succ, List.filter_append, List.filter_cons_of_neg (by rw [hf]; exact Bool.false_ne_true), List.filter_nil, List.append_nil]
      exact a.imp fun _ _ r => mono _ _ _ _ (hid_mono s4) r
  · obtain ⟨ys, s, e, a⟩ := h
    exact hd H ys s e a
end
end Fb

/-! Part S5: a tuple once or more times over. -/
namespace Fb
open PySem PySem.Spec PyProof.Rows L2
open AutoSeq1 (wpAny_loadPart')
theorem tuple_mul1 (l : Addr) (items : Array Value) (n : Nat) (sl : Array (Option Value)) (dd : Option Addr) (u : Tok) :
    Meets (Builtin.«tuple.__mul__» ⟨[.ref l, .int 1 u], []⟩) (fun _ R s => s.heap.get? l = some { cls := .type "tuple", dict := dd, data := .seq items n, slots := sl } ∧
      R (.ok (.ret (Value.ref l))) s) :=
  .of_wp fun prog w A R s h => by
    obtain ⟨hp, g, d, tk, os⟩ := s
    obtain ⟨hl, h⟩ := h
    have f1 := AutoSeq1.idx_int
    have c1 : (items.isEmpty || (1 : Int) == 1) = true := by simp
    wp_walk using wpAny_loadPart' hl
    repeat (first
      | (refine wpAny_ite_true (decide_eq_true (by rw [c1])) ?_; wp_walk using wpAny_loadPart' hl)
      | (refine wpAny_ite_true c1 ?_; wp_walk using wpAny_loadPart' hl)
      | (refine wpAny_ite_false (by decide) ?_; wp_walk using wpAny_loadPart' hl))
    exact ⟨_, rfl, h⟩
def rRepA (K : PySem.W.Frag) : R2 := fun x y H Q => ∃ l k xs, x = .ref l ∧ y = .int k ∧ SqT K H l xs ∧ xs ≠ [] ∧ 1 ≤ k ∧ k ≤ 1000 ∧ xs.length ≤ 1000 ∧ (k = 1 → Q (.ref l) H) ∧ (2 ≤ k → ∀ p, H p = none → Q (.ref p) (upd H p (.tup (List.replicate k.toNat xs).flatten)))
theorem op_repA {X : Cx} : OpR X (binaryOp .Mult) (rRepA X.K) := by
  intro pins s σ H x y v u Q I rx ry h
  obtain ⟨l, k, xs, rfl, rfl, hT, hne, h1, h2, hz, q1, q2⟩ := h
  by_cases h2k : 2 ≤ k
  · exact op_repT pins s σ H _ _ v u Q I rx ry ⟨l, k, xs, rfl, rfl, hT, hne, h2k, h2, hz, q2 h2k⟩
  · have : k = 1 := by omega
    subst this
    cases rx
    obtain ⟨t, rfl⟩ := ry
    obtain ⟨its, r, ⟨⟨cls, dd, data, sl⟩, ho, hc, n, hd⟩, hs⟩ := I.tuple hT
    simp only at hc hd
    subst hc hd
    refine wpAny_binaryOp_repeat_ref (T := "tuple") (U := "int") (by decide) ⟨_, ho, rfl⟩ (fun s' => typeIs_int s' 1 t) noFill_tuple_mul F.fills_int_mul F.slot_int_rmul repeat_tuple F.slot_int_index.lookup
      (call_meets F.slot_int_rmul (typeIs_int s 1 t) F.entry_int_rmul (F.args_int_rmul_2 _ _) (int_rmul_tuple 1 t l its.toArray n dd sl)
        ⟨ho, rfl, ⟨_, ho, rfl⟩, call_meets F.slot_tuple_mul ⟨_, ho, rfl⟩ F.entry_tuple_mul (F.args_tuple_mul_2 _ _) (tuple_mul1 l its.toArray n sl dd t) ⟨ho, ?_⟩⟩)
    exact ⟨.ref l, H, I, rfl, q1 rfl⟩
theorem op_repAK {X : Cx} {K : PySem.W.Frag} (hK : X.K = K) : OpR X (binaryOp .Mult) (rRepA K) := hK ▸ op_repA
theorem op_catTK {X : Cx} {K : PySem.W.Frag} (hK : X.K = K) : OpR X (binaryOp .Add) (rCatT K) := hK ▸ op_catT
end Fb

/-! Part X1: refusals with a value: several except clauses, with names or without; what the written part says of such a class. -/
namespace Fb
open PySem PySem.Spec PyProof.Rows L2
/-- what the clauses wish of an exception of the body, one after the other; a clause may name the exception (slot i) -/
def wManyN (K : PySem.W.Frag) (Wout : WX) (D : Ends) : List (Value × Option Nat × (Addr → Value → Option Addr → L2.TS)) → WX
  | [] => Wout
  | (c, none, ts) :: r => fun cls d σ H => ∃ b, PySem.W.exmOne K cls c = some b ∧ (b = true → ∀ a, H a = none → ts a cls d D σ H) ∧ (b = false → wManyN K Wout D r cls d σ H)
  | (c, some i, ts) :: r => fun cls d σ H => ∃ b, PySem.W.exmOne K cls c = some b ∧
    (b = true → ∀ a, H a = none → ts a cls d { nx := fun σ' H' => D.nx (σ'.set i none) H', rt := D.rt, bk := fun σ' H' => D.bk (σ'.set i none) H', ct := fun σ' H' => D.ct (σ'.set i none) H' } (σ.set i (some (.ref a))) H) ∧ (b = false → wManyN K Wout D r cls d σ H)
inductive HdsN (X : Cx) : List ExceptHandler → List (Value × Option Nat × (Addr → Value → Option Addr → L2.TS)) → Prop
  | nil : HdsN X [] []
  | cons {x : Str} {c : Value} {ts : Addr → Value → Option Addr → L2.TS} {b₀ : Stmt} {suite : List Stmt} {np pos' : Pos} {hds : List ExceptHandler} {l : List (Value × Option Nat × (Addr → Value → Option Addr → L2.TS))} (hc : Names X x c)
      (hsu : ∀ (a : Addr) (oe : Obj) (cls : Value) (d : Option Addr) (pn : List (Addr × Obj)), Zc cls d oe → (∃ vs, oe.data = .fields vs) → PSs (X.suite a ((a, oe) :: pn)) (b₀ :: suite) (ts a cls d)) (r : HdsN X hds l) :
      HdsN X (.ExceptHandler (some (.Name x np)) none (b₀ :: suite) pos' :: hds) ((c, none, ts) :: l)
  | as {x n : Str} {i : Nat} {c : Value} {ts : Addr → Value → Option Addr → L2.TS} {b₀ : Stmt} {suite : List Stmt} {np pos' : Pos} {hds : List ExceptHandler} {l : List (Value × Option Nat × (Addr → Value → Option Addr → L2.TS))} (hi : X.N[i]? = some n) (hln : X.env.kindOf n = some .local) (hc : Names X x c)
      (hsu : ∀ (a : Addr) (oe : Obj) (cls : Value) (d : Option Addr) (pn : List (Addr × Obj)), Zc cls d oe → (∃ vs, oe.data = .fields vs) → PSs (X.suite a ((a, oe) :: pn)) (b₀ :: suite) (ts a cls d)) (r : HdsN X hds l) :
      HdsN X (.ExceptHandler (some (.Name x np)) (some n) (b₀ :: suite) pos' :: hds) ((c, some i, ts) :: l)
section
variable {X : Cx} {body : List Stmt} {h₀ : ExceptHandler} {hds : List ExceptHandler} {l : List (Value × Option Nat × (Addr → Value → Option Addr → L2.TS))} {pos : Pos} {tb : WX → L2.TS} {Wout : WX}
theorem ps_try_manyN (hs : X.stack = X.env :: X.outer) (hf : X.env.frame = some X.env.locals) (hN : X.N.Nodup) (tk : Takes X Wout)
    (hb : ∀ (W : WX) (pn : List (Addr × Obj)) (xe : Value → Shared → Prop), Takes (X.tr pn xe) W → PassesOwn (model X.prog X.w) X.A X.env xe → PSs (X.tr pn xe) body (tb W))
    (hh : HdsN X (h₀ :: hds) l) : PS X (.Try body (h₀ :: hds) [] [] pos) (fun D σ H => tb (wManyN X.K Wout D l) D σ H) := by
  refine ⟨fun pins s σ H D I h => ?_⟩
  have ok := I.ok
  have hfr : X.A.frames = some (X.env :: X.outer) := by rw [ok.frames, hs]
  refine wpAny_Try_except ?_
  refine wpAny_mono ((hb (wManyN X.K Wout D l) (X.pn ++ pins) (fun e s₁ => wpAny (model X.prog X.w) X.A (noteFrame e X.env) (fun _ s₂ => wpAny (model X.prog X.w) X.A (setFlight e none) (fun _ s₃ =>
    wpAny (model X.prog X.w) X.A (handleBy e X.env (h₀ :: hds)) (SP X pins D) X.xe s₃) X.xe s₂) X.xe s₁) (fun u s' xx => ?_) PassesOwn.looking).run [] s σ H D (I.toTry _) h) (fun f s1 hsp => ?_) (fun e s1 he => he)
  · obtain ⟨a, B, sI, pins', σ', H', cls, d, rfl, J', nb, up, sky, na, os, ag, w⟩ := xx
    have J : Inv X pins σ' H' sI := J'.ofTry ok
    have sky' : Sky B (X.env :: X.outer) a (Zc cls d) X.env.locals s'.heap := by rw [← hs]; exact sky
    show wpAny (model X.prog X.w) X.A (noteFrame (.ref a) X.env) _ _ _
    refine Sky.land Zc.steady hfr hf sky' fun h3 fl3 up3 => ?_
    have J3 : Inv X pins σ' H' { s' with heap := h3 } := J.landed nb fl3.1 (up.trans up3) os ag
    obtain ⟨oe3, vs3, he3, hz3, hd3⟩ := fl3.there
    have nfr : a ∉ frs (X.env :: X.outer) := fun hm => by
      obtain ⟨_, o', e', hnf⟩ := fl3.2.2.1.mem hm
      rw [he3] at e'
      cases e'
      exact hnf _ hd3
    have nL : a ≠ X.env.locals := fun z => nfr (List.mem_filterMap.mpr ⟨X.env, List.mem_cons_self, by rw [hf, z]⟩)
    have nF : a ∉ X.fs := fun hm => by
      obtain ⟨e, he, q⟩ := List.mem_filterMap.mp hm
      exact nfr (List.mem_filterMap.mpr ⟨e, List.mem_cons_of_mem _ he, q⟩)
    have S3 := J3.suite he3 hd3 na nL nF
    have LT : PySem.W.Looks (model X.prog X.w) h3 (typeOf (.ref a)) cls := fun A Q E s k q => wpAny_typeOf_ref (k _ _ he3) (by rw [hz3.1]; exact q)
    have test : ∀ {x : Str} {c : Value} {np : Pos} {Q : Value → Shared → Prop} {E : Value → Shared → Prop}, Names X x c → Q c { s' with heap := h3 } → wpAny (model X.prog X.w) (X.A.mark (some (.ref a))) (eval (.Name x np) X.env) Q E { s' with heap := h3 } := fun {x c np Q E} hc q => by
      obtain ⟨hg, hdbg, hm | ⟨hm, hv, hnn⟩⟩ := hc
      · exact ld_glob (X := X.suite a ((a, oe3) :: (X.pn ++ pins))) S3 hg hm q hdbg
      · exact ld_blt (X := X.suite a ((a, oe3) :: (X.pn ++ pins))) S3 hg hm hv q hnn hdbg
    have go : ∀ {hds' : List ExceptHandler} {l' : List (Value × Option Nat × (Addr → Value → Option Addr → L2.TS))}, HdsN X hds' l' → wManyN X.K Wout D l' cls d σ' H' →
        wpAny (model X.prog X.w) X.A (handleBy (.ref a) X.env hds') (SP X pins D) X.xe { s' with heap := h3 } := by
      intro hds' l' hk
      induction hk with
      | nil =>
        intro w
        refine wpAny_handleBy_nil ?_
        obtain ⟨k1, k2, k3, oe, vs, T, oT, ts', he, hz, hd, h1, hr⟩ := id fl3
        unfold PySem.passOn
        refine wpAny_bind (wpAny_field he hd h1 ?_)
        rw [if_neg (show ¬ ((Value.ref T == Value.none) = true) from by simp)]
        have fin : wpAny (model X.prog X.w) X.A (setFlight (.ref a) X.env.frame) (fun _ s4 => wpAny (model X.prog X.w) X.A (throw (.ref a) : Sem Flow) (SP X pins D) X.xe s4) X.xe { s' with heap := h3 } := by
          rw [hf]
          refine HandSPX.setFlight_upZ fl3 fun h4 hh4 up4 => wpAny_throw (tk _ _ ?_)
          exact ⟨a, B, sI, pins, σ', H', cls, d, rfl, J, nb, (up.trans up3).trans up4, .inr (.inr (by rw [hs]; exact hh4)), na, os, ag, w⟩
        first
          | exact wpAny_bind (wpAny_pure (wpAny_bind fin))
          | exact wpAny_bind fin
      | @cons x c ts b₀ suite np pos' hds2 l2 hc hsu r ih =>
        intro w
        obtain ⟨b, hb1, hyes, hno⟩ := w
        refine wpAny_handleBy_cons (codeAny_handlers_test ?_) (by intro q; cases q)
        have LM := PySem.W.exm_one (M := model X.prog X.w) (J3.kIn) LT hb1
        refine test hc (LM.here ?_)
        cases b with
        | true =>
          refine codeAny_handlers_suite ?_
          refine HandSPX.lands_againZ fl3 fun h4 fl4 up4 => ?_
          have J4 : Inv X pins σ' H' { s' with heap := h4 } := J.landed nb fl4.1 ((up.trans up3).trans up4) os ag
          obtain ⟨oe4, vs4, he4, hz4, hd4⟩ := fl4.there
          have S4 := J4.suite he4 hd4 na nL nF
          refine wpAny_mono ((hsu a oe4 cls d (X.pn ++ pins) hz4 ⟨_, hd4⟩).run [] _ _ H' _ S4 (hyes rfl a na)) (fun f s6 hsp => ?_) (fun _ _ z => False.elim z)
          cases f with
          | next =>
            obtain ⟨σ6, H6, S6, q6⟩ := hsp
            exact ⟨_, _, S6.unsuite ok, q6⟩
          | brk =>
            obtain ⟨σ6, H6, S6, q6⟩ := hsp
            exact ⟨_, _, S6.unsuite ok, q6⟩
          | cont =>
            obtain ⟨σ6, H6, S6, q6⟩ := hsp
            exact ⟨_, _, S6.unsuite ok, q6⟩
          | ret u =>
            obtain ⟨v6, σ6, H6, S6, r6, q6⟩ := hsp
            exact ⟨_, _, _, S6.unsuite ok, r6, q6⟩
        | false =>
          show wpAny _ X.A (handleBy (.ref a) X.env hds2) _ _ _
          exact ih (hno rfl)
      | @as x n i c ts b₀ suite np pos' hds2 l2 hi hln hc hsu r ih =>
        intro w
        obtain ⟨b, hb1, hyes, hno⟩ := w
        refine wpAny_handleBy_cons (codeAny_handlers_test ?_) (by intro q; cases q)
        have LM := PySem.W.exm_one (M := model X.prog X.w) (J3.kIn) LT hb1
        refine test hc (LM.here ?_)
        cases b with
        | true =>
          refine codeAny_handlers_suite_as ?_
          refine HandSPX.lands_againZ fl3 fun h4 fl4 up4 => ?_
          have J4 : Inv X pins σ' H' { s' with heap := h4 } := J.landed nb fl4.1 ((up.trans up3).trans up4) os ag
          obtain ⟨oe4, vs4, he4, hz4, hd4⟩ := fl4.there
          have S4 := J4.suite he4 hd4 na nL nF
          refine store_ok (X := X.suite a ((a, oe4) :: (X.pn ++ pins))) (v := .ref a) S4 hN hi (.inl hln) rfl (fun s5 S5 => ?_) (.inr hln)
          refine wpAny_mono ((hsu a oe4 cls d (X.pn ++ pins) hz4 ⟨_, hd4⟩).run [] s5 _ H' _ S5 (hyes rfl a na)) (fun f s6 hsp => ?_) (fun _ _ z => False.elim z)
          have end_ : ∀ {σ6 : L2.St} {H6 : Hp} {Q : Shared → Prop}, Inv (X.suite a ((a, oe4) :: (X.pn ++ pins))) [] σ6 H6 s6 → (∀ s7, Inv X pins (σ6.set i none) H6 s7 → Q s7) →
              wpAny (model X.prog X.w) X.A (do bindName X.env n .none; unbindBehindTheSuite X.env n pos') (fun _ s7 => Q s7) X.xe s6 := fun {σ6 H6 Q} S6 hq => gone_ok (S6.unsuite ok) hN hi hln hq
          cases f with
          | next =>
            obtain ⟨σ6, H6, S6, q6⟩ := hsp
            exact end_ S6 fun s7 J7 => ⟨_, _, J7, q6⟩
          | brk =>
            obtain ⟨σ6, H6, S6, q6⟩ := hsp
            exact end_ S6 fun s7 J7 => ⟨_, _, J7, q6⟩
          | cont =>
            obtain ⟨σ6, H6, S6, q6⟩ := hsp
            exact end_ S6 fun s7 J7 => ⟨_, _, J7, q6⟩
          | ret u =>
            obtain ⟨v6, σ6, H6, S6, r6, q6⟩ := hsp
            exact end_ S6 fun s7 J7 => ⟨_, _, _, J7, r6, q6⟩
        | false =>
          show wpAny _ X.A (handleBy (.ref a) X.env hds2) _ _ _
          exact ih (hno rfl)
    exact go hh w
  · cases f with
    | next =>
      obtain ⟨σ', H', J', q⟩ := hsp
      exact wpAny_execs_nil ⟨σ', H', J'.ofTry ok, q⟩
    | brk =>
      obtain ⟨σ', H', J', q⟩ := hsp
      exact ⟨σ', H', J'.ofTry ok, q⟩
    | cont =>
      obtain ⟨σ', H', J', q⟩ := hsp
      exact ⟨σ', H', J'.ofTry ok, q⟩
    | ret u =>
      obtain ⟨v, σ', H', J', r, q⟩ := hsp
      exact ⟨v, σ', H', J'.ofTry ok, r, q⟩
end
theorem refs_of : ∀ l : List Value, PySem.W.excTail PySem.HandSPX.veTail l = true → PySem.HandSPX.refsVE l = true := by
  intro l
  induction l with
  | nil => exact fun h => h
  | cons a r ih =>
    intro h
    rcases PySem.W.excTail_cases (a :: r) h with ⟨c, r', q, h'⟩ | q
    · obtain ⟨rfl, rfl⟩ := List.cons.inj q
      exact ih h'
    · rw [q]
      decide +kernel
/-- a class of refusals with a value, as the written part tells of it -/
theorem oex_of {K : PySem.W.Frag} {C : Addr} (q : PySem.W.excInitIn K C PySem.HandSPX.veTail "ValueError.__new__" = true) (hd : PySem.W.hasDictIn K C = true) (sa : PySem.W.findIn K (.ref C) "__setattr__" = some (some (.builtin "object.__setattr__")))
    (sb : PySem.W.subIn K (.ref C) (.type "BaseException") = some true) (ty : PySem.W.typeIn K (.ref C) = some (.type "type")) (kp : PySem.W.keepIn K (.ref C) = true) : OexC K C := by
  refine ⟨?_, sa, sb, ty, kp⟩
  unfold PySem.W.excInitIn at q
  split at q
  · rename_i dd cd sl ho
    split at q
    · rename_i C' bm k0 k1 k2 k3 n k5 hm hs
      simp only [Bool.and_eq_true, beq_iff_eq, Bool.not_eq_true'] at q
      obtain ⟨⟨⟨rfl, rfl⟩, hdel⟩, ht⟩ := q
      have hh : cd.hasDict = true := by
        unfold PySem.W.hasDictIn PySem.W.clsIn at hd
        rw [ho] at hd
        simpa using hd
      obtain ⟨nm, bs, mro, ns, qn, hd', sn, sub, ab, col, del⟩ := cd
      dsimp only at hm hdel hh
      subst hm hdel hh
      have hsl : sl = #[k0, k1, k2, k3, some (.builtin "ValueError.__new__"), k5] := by
        obtain ⟨l⟩ := sl
        simp only at hs
        rw [hs]
      subst hsl
      exact ⟨nm, qn, ns, bs, bm, sn, sub, ab, col, dd, k0, k1, k2, k3, k5, ho, refs_of _ ht⟩
    · cases q
  · cases q
end Fb

/-! Part S6: sum of a tuple of whole numbers. -/
namespace Fb
open PySem PySem.Spec PyProof.Rows L2
section
variable {prog : Program} {w : World} {A : Around} {E : Value → Shared → Prop} {s : Shared} {l : Addr} {xs : Array (Int × Tok)}
theorem sum_intTup {Q : Value → Shared → Prop} (hh : A.handled = none) (hl : s.heap.IsTuple l (intItems xs))
    (h : ∀ h' tk t', (∀ b o, s.heap.get? b = some o → h'.get? b = some o) → Q (.int (preSum (numAt xs) xs.size) t') { s with heap := h', toks := tk }) :
    wpAny (model prog w) A (call (.builtin "sum") [.ref l]) Q E s := by
  have hlt : l < s.heap.objs.size := by obtain ⟨_, e, _⟩ := hl; exact Heap.lt_size e
  refine call_sum_walkG (wpAny_pyIter_tuple hl ?_)
  refine ⟨_, _, _, _, _, _, numAt xs, rfl, Walks.tuple (A := A.in1) hh _ l (Nat.ne_of_lt hlt) (intItems xs), ⟨⟨_, Heap.get?_push_size _ rfl, rfl, rfl⟩, hl.push _⟩, fun b hb => ?_, (fun _ _ => intItems_at), fun h' tk t' hk => ?_⟩
  · show b < (s.heap.push _).objs.size
    rw [Heap.size_push]
    rcases List.mem_cons.mp hb with rfl | hb
    · exact Nat.lt_succ_self _
    · rw [List.mem_singleton.mp hb]
      exact Nat.lt_succ_of_lt hlt
  · have := h h' tk t' fun b o e => hk b o (fun hb => absurd (Heap.lt_size e) ((List.mem_singleton.mp hb) ▸ Nat.lt_irrefl _)) (Heap.get?_push_of_some _ e)
    simpa [intItems] using this
end
def rSumT (K : PySem.W.Frag) : List V → Hp → VK → Prop := fun vs H Q => ∃ (a : Addr) (ns : List Int), vs = [V.ref a] ∧ SqT K H a (ns.map V.int) ∧ Q (.int ns.sum) H
theorem cr_sumT {X : Cx} (hc : X.calm = true) : CallR X (.builtin "sum") (rSumT X.K) := by
  intro pins s σ H vs us Q I r h
  obtain ⟨a, ns, rfl, hs, q⟩ := h
  obtain ⟨its, rv, hl, _⟩ := I.tuple hs
  rw [Vals.ref1 r]
  have hi := rv.ints
  obtain ⟨xs, e⟩ := hi.allInts.items
  have hn : numsOf (intItems xs).toList = ns := by rw [← e]; exact hi.numsOf
  rw [nums_intItems] at hn
  have hl' : s.heap.IsTuple a (intItems xs) := by rw [← e]; exact hl
  refine sum_intTup (I.ok.hd hc) hl' fun h' tk t' hk => ?_
  rw [preSum_eq, List.take_of_length_le (by simp), hn]
  exact ⟨.int _, H, I.kept hk, ⟨_, rfl⟩, q⟩
theorem cr_sumTK {X : Cx} {K : PySem.W.Frag} (hK : X.K = K) (hc : X.calm = true) : CallR X (.builtin "sum") (rSumT K) := hK ▸ cr_sumT hc
end Fb

/-! Part S7: tuples and dicts of the written part; zip of two tuples walked; slices of tuples. -/
namespace Fb
open PySem PySem.Spec PyProof.Rows L2
def SqK (K : PySem.W.Frag) (a : Addr) (xs : List V) : Prop := ∃ (o : Obj) (its : Array Value) (n : Nat), K.lookup a = some o ∧ o.cls = .type "tuple" ∧ o.data = .seq its n ∧ its.size ≤ sizeLine ∧ Vals xs its.toList
theorem SqK.sq {K : PySem.W.Frag} {a : Addr} {xs : List V} {H : Hp} (h : SqK K a xs) : SqT K H a xs := .inr h
theorem walk_zipT {K : PySem.W.Frag} {a b : Addr} {xs ys : List V} {n : Nat} (hn : n = min xs.length ys.length) : Walk (RZ.ItzT K a b) n (fun H => SqT K H a xs ∧ SqT K H b ys) (YPair (fun i => xs[i]?) (fun i => ys[i]?)) := by
  subst hn
  refine ⟨fun i _ hi q => ?_, fun _ q => ⟨xs, ys, q.1, q.2, by omega⟩, fun i H v H' _ q y => ?_⟩
  · have h1 : i < xs.length := by omega
    have h2 : i < ys.length := by omega
    exact ⟨xs, ys, xs[i], ys[i], q.1, q.2, by simp [h1], by simp [h2]⟩
  · obtain ⟨T, x, z, h1, h2, h3, h4, h5⟩ := y
    exact ⟨T, x, z, h1, h2, h3, h4 xs q.1, h5 ys q.2⟩
theorem sl_tupAK {X : Cx} {K : PySem.W.Frag} (hK : X.K = K) : SlR X (rSlA K) := hK ▸ sl_tupA
theorem cut_tail (x : V) (xs : List V) : cutV (x :: xs) (some 1) none = xs := by
  unfold cutV
  have e : HT.sIx (x :: xs).length 0 (some (1 : Int)) = 1 := by
    rw [show (1 : Int) = ((1 : Nat) : Int) from rfl, HT.sIx_nat]
    simp
  rw [e, HT.sIx_none]
  simp
theorem tail_part (x : V) (xs : List V) : ¬ (HT.sIx (x :: xs).length 0 (some (1 : Int)) = 0 ∧ HT.sIx (x :: xs).length (x :: xs).length none = (x :: xs).length) := fun h => by
  have e : HT.sIx (x :: xs).length 0 (some (1 : Int)) = 1 := by
    rw [show (1 : Int) = ((1 : Nat) : Int) from rfl, HT.sIx_nat]
    simp
  rw [e] at h
  exact absurd h.1 (by decide)
theorem cut_tok (xs : List V) (k : Nat) : cutV xs none (some (k : Int)) = xs.take k := by
  unfold cutV
  rw [HT.sIx_none, HT.sIx_nat, List.drop_zero, Nat.sub_zero]
  by_cases h : k ≤ xs.length
  · rw [Nat.min_eq_left h]
  · rw [Nat.min_eq_right (by omega), List.take_of_length_le (Nat.le_refl _), List.take_of_length_le (by omega)]
end Fb

/-! Part S8: a caught refusal that has a value asked for its class; len by an own __len__; range as a value, and its len. -/
namespace Fb
open PySem PySem.Spec PyProof.Rows L2
section
variable {X : Cx} {a : Addr} {oe : Obj} {cls : Value} {d : Option Addr} {pn : List (Addr × Obj)}
def rIsErrD (K : PySem.W.Frag) (cls : Value) (d : Option Addr) (a : Addr) : List V → Hp → VK → Prop := fun xs H Q => ∃ (D dd : Addr) (fs : List (Str × V)) (c : V) (u : Value) (b : Bool), cls = .ref D ∧ d = some dd ∧ H dd = some (.xd fs) ∧ ExcC K D ∧ xs = [.ref a, c] ∧ ClsV c u ∧ PySem.W.kitOne K (.ref D) u = some b ∧ Q (.bl b) H
theorem call_isErrD {K : PySem.W.Frag} (hK : X.K = K) (hz : Zc cls d oe) (hf : ∃ vs, oe.data = .fields vs) : CallR (X.suite a ((a, oe) :: pn)) (.builtin "isinstance") (rIsErrD K cls d a) := by
  subst hK
  intro pins s σ H xs us Q I r h
  obtain ⟨D, dd, fs, c, u, b, rfl, rfl, hdd, C, rfl, k, e, q⟩ := h
  obtain ⟨u1, u2, rfl, r1, r2⟩ := vals2 r
  cases r1
  have ec := k.eq r2
  subst ec
  obtain ⟨hget, _⟩ := I.pin (a, oe) (List.mem_append.mpr (.inl List.mem_cons_self))
  obtain ⟨vs, hv⟩ := hf
  have hx : ObjOk X.prog X.w H s.heap dd (.xd fs) := I.hok dd _ hdd
  obtain ⟨mA, hns, hr⟩ := hx
  obtain ⟨od, ho, hl⟩ := lookIn_ns hns
  have J : PySem.W.InstAt s.heap a oe D (some od) := ⟨hget, hz.1, by unfold PySem.W.notCls; rw [hv] <;> rfl, by rw [hz.2]; exact ho⟩
  have hcl : (PySem.W.clsIn X.K D).isSome = true := by
    have := C.hd
    unfold PySem.W.hasDictIn at this
    cases hc : PySem.W.clsIn X.K D with
    | none => rw [hc] at this; cases this
    | some _ => rfl
  exact PySem.W.kia_one (PySem.W.kitx_exc hcl C.hg C.hk C.hs C.ha C.hn C.ht C.hm) I.kIn J e (fun z => nomatch z) fun tk => ⟨.bl b, H, I.kept (t' := tk) fun _ _ z => z, rfl, q⟩
end
section
variable {X : Cx} {k : Nat} {C f : Addr} {fd : FuncData} {ps : List Str} {sp : Sp}
/-- len of an instance -/
theorem call_lenOwn (F : FnOk X.prog X.w X.K X.mg X.base CX0 k f fd ps sp) (hr : Room (k + 1) X.A) (hb : Binds X.K fd ps []) (hs : PySem.W.findIn X.K (.ref C) "__len__" = some (some (.ref f))) (hf : PySem.W.isFn X.K (.ref f) = true) :
    CallR X (.builtin "len") (fun xs H Q => ∃ a dx fs, xs = [.ref a] ∧ H a = some (.ins C dx fs) ∧ sp [.ref a] H (fun v H' => ∃ n : Int, v = .int n ∧ 0 ≤ n ∧ n < 2 ^ 63 ∧ Q v H') E0) := by
  intro pins s σ H xs us Q I r h
  obtain ⟨a, dx, fs, rfl, ha, hsp⟩ := h
  obtain ⟨u, rfl, ru⟩ := vals1 r
  cases ru
  obtain ⟨mA, J, _⟩ := ins_get I.hok ha
  obtain ⟨od, J, _⟩ := J.look
  obtain ⟨m, fr⟩ := I.fr
  refine PySem.W.len_K fr I.ok.mod.kin J hs hf ?_
  refine wpAny_mono (run_in (A := X.A.in1) F hr.in1 I.env0.in1 hb I (vs := [.ref a]) (.cons rfl .nil) hsp) (fun r s' z => ?_) fun _ _ e => e
  obtain ⟨z1, H', I', rz, n, rfl, n0, n1, q⟩ := z
  obtain ⟨t, rfl⟩ := rz
  exact ⟨⟨n0, n1⟩, .int n, H', I'.tok _, ⟨_, rfl⟩, q⟩
end
section
variable {X : Cx}
theorem cr_range1 : CallR X (.type "range") (fun vs H Q => ∃ j, vs = [V.int j] ∧ ∀ p, H p = none → Q (.ref p) (upd H p (.rng 0 j))) := by
  intro pins s σ H vs us Q I r h
  obtain ⟨j, rfl, q⟩ := h
  obtain ⟨u1, rfl, rj⟩ := vals1 r
  obtain ⟨u, rfl⟩ := rj
  refine call_range_1 ⟨.ref s.heap.objs.size, upd H s.heap.objs.size (.rng 0 j), I.laid (t' := s.toks + 1 + 1) (fun b o e => Heap.get?_push_of_some _ e) (Nat.le_refl _) ?_, rfl, q _ (I.hok.fresh (Nat.le_refl _))⟩
  exact ⟨s.toks, u, s.toks + 1, Heap.get?_push_size _ rfl⟩
theorem call_lenRng : CallR X (.builtin "len") (fun xs H Q => ∃ (p : Addr) (n : Nat), xs = [.ref p] ∧ H p = some (.rng 0 (n : Int)) ∧ n ≤ 1000 ∧ Q (.int (n : Int)) H) := by
  intro pins s σ H xs us Q I r h
  obtain ⟨p, n, rfl, hp, l, q⟩ := h
  obtain ⟨u, rfl, ru⟩ := vals1 r
  cases ru
  obtain ⟨t1, t2, t3, ho⟩ := (show ObjOk X.prog X.w H s.heap p (.rng 0 (n : Int)) from I.hok p _ hp)
  refine call_len_range (n := n) (r := p) (a := 0) (b := (n : Int)) (c := 1) (t := t1) (u := t2) (v := t3) ho ?_ (by omega) ⟨.int (n : Int), H, (I.tok _), ⟨_, rfl⟩, q⟩
  unfold Builtin.Range.rangeSize
  rw [if_pos (by decide)]
  by_cases h0 : 0 < (n : Int)
  · rw [if_pos h0]
    omega
  · rw [if_neg h0]
    omega
end
end Fb

/-! Part Z1: dict of a list of pairs whose keys are tuples; sorted of pairs of a number and a text. -/
namespace Fb
open PySem PySem.Spec PyProof.Rows L2
/-! ### dict -/
theorem storedAllH_new {α : Type} [DecidableEq α] : ∀ (ps xs : List (α × Addr × Value)), ((xs ++ ps).map (·.1)).Nodup → storedAllH xs ps = xs ++ ps
  | [], xs, _ => by rw [List.append_nil]; rfl
  | p :: ps, xs, h => by
    have h1 : storedH xs p.1 p.2.1 p.2.2 = xs ++ [p] := by
      have : atKey xs p.1 = none := by
        have hn : ∀ x ∈ xs, x.1 ≠ p.1 := fun x hx e => by
          rw [List.map_append, List.nodup_append] at h
          exact h.2.2 x.1 (List.mem_map_of_mem hx) p.1 (by simp) e
        clear h
        induction xs with
        | nil => rfl
        | cons x xs ih =>
          have := hn x List.mem_cons_self
          simpa [atKey, this] using ih fun y hy => hn y (List.mem_cons_of_mem _ hy)
      unfold storedH
      rw [this]
      rfl
    show storedAllH (storedH xs p.1 p.2.1 p.2.2) ps = _
    rw [h1, storedAllH_new ps (xs ++ [p]) (by rw [List.append_assoc]; exact h), List.append_assoc]
    rfl
section
variable {X : Cx}
theorem pairs_ofT {pins : List (Addr × Obj)} {σ : L2.St} {H : Hp} {s : Shared} (I : Inv X pins σ H s) : ∀ {ps : List Addr} {kvs : List (List Key × V)}, Paired (fun p kv => ∃ b, H p = some (.tup [.ref b, kv.2]) ∧ H b = some (.tup (kv.1.map kV))) ps kvs →
    ∃ prs : List (List Key × Addr × Value), Paired (fun (p : List Key × V) (q : List Key × Addr × Value) => p.1 = q.1 ∧ H q.2.1 = some (.tup (p.1.map kV)) ∧ RelV p.2 q.2.2) kvs prs ∧ prs.length = ps.length ∧
      ∀ (j : Nat) (q : List Key × Addr × Value), prs[j]? = some q → ∃ p, ps[j]? = some p ∧ s.heap.IsTuple p #[.ref q.2.1, q.2.2] ∧ (tupleKind (mixKind X.prog X.w)).is s.heap q.1 q.2.1
  | _, _, .nil => ⟨[], .nil, rfl, fun j q e => by simp at e⟩
  | _, _, .cons (a := p) (b := kv) ⟨b, h1, h2⟩ t => by
    obtain ⟨prs, r, hl, hp⟩ := pairs_ofT I t
    obtain ⟨_, its, rv, o, ho, hc, n, hd⟩ := (show ObjOk X.prog X.w H s.heap p _ from I.hok p _ h1)
    obtain ⟨u, y, ei, ru, ry⟩ := vals2 rv
    subst ei
    cases ru
    refine ⟨(kv.1, b, y) :: prs, .cons ⟨rfl, h2, ry⟩ r, by rw [List.length_cons, List.length_cons, hl], fun j q e => ?_⟩
    cases j with
    | zero =>
      have e' : (kv.1, b, y) = q := Option.some.inj e
      subst e'
      exact ⟨p, rfl, ⟨o, ho, hc, n, hd⟩, key_of I.hok h2⟩
    | succ j =>
      obtain ⟨p', e1, e2⟩ := hp j q (by simpa using e)
      exact ⟨p', by simpa using e1, e2⟩
/-- dict(xs) of a list of pairs (tuple, value), no two of the same tuple -/
theorem call_dictT (hcalm : X.calm = true) (hu : X.A.units + 2 < cLine) : CallR X (.type "dict") (fun xs H Q => ∃ (a : Addr) (ps : List Addr) (kvs : List (List Key × V)), xs = [.ref a] ∧ SqL X.K H a (ps.map V.ref) ∧
    Paired (fun p kv => ∃ b, H p = some (.tup [.ref b, kv.2]) ∧ H b = some (.tup (kv.1.map kV))) ps kvs ∧ (kvs.map (·.1)).Nodup ∧ ∀ p, H p = none → Q (.ref p) (upd H p (.dT kvs))) := by
  intro pins s σ H xs us Q I r q
  obtain ⟨a, ps, kvs, ex, hq, hp, nd, q⟩ := q
  subst ex
  obtain ⟨u, eu, rx⟩ := vals1 r
  subst eu
  cases rx
  obtain ⟨its, rv, pl, hz⟩ := I.list hq
  have ei := refs_at rv
  subst ei
  rw [List.length_map] at hz
  obtain ⟨prs, rel, hl, hpr⟩ := pairs_ofT I hp
  obtain ⟨o, n, ho, hc, hd, hdat⟩ := pl
  have ek : kvs.map (·.1) = prs.map (·.1) := by
    clear hpr hl nd q hp
    induction rel with
    | nil => rfl
    | cons h t ih => rw [List.map_cons, List.map_cons, ih, h.1]
  have nd' : (prs.map (·.1)).Nodup := by rw [← ek]; exact nd
  have hs := storedAllH_new prs [] nd'
  refine call_dict_pairsH (knd := tupleKind (mixKind X.prog X.w)) (ps := prs) (PairArg.list a _ (fun j => ps.getD j 0) (prs.map fun q => (Value.ref q.2.1, q.2.2))) (I.ok.hd hcalm) hu ⟨⟨o, n, ho, hc, hd, hdat⟩, ?_, ?_⟩ ⟨by rw [List.length_map], ?_⟩ ?_ (by rw [List.length_map, hl]; exact hz) fun h' tk hd' k => ?_
  · rw [List.size_toArray, List.length_map, List.length_map, hl]
  · intro j k v e
    rw [List.getElem?_map] at e
    obtain ⟨q', hq', e'⟩ := Option.map_eq_some_iff.mp e
    cases e'
    obtain ⟨p, e1, e2, e3⟩ := hpr j q' hq'
    have gd : (fun j => ps.getD j 0) j = p := by
      show ps.getD j 0 = p
      rw [List.getD_eq_getElem?_getD, e1]
      rfl
    refine ⟨?_, .inl ?_⟩
    · rw [List.getElem?_toArray, List.getElem?_map, e1, gd]
      rfl
    · rw [gd]
      exact e2
  · intro j k v e
    have e : (prs.map fun q => (Value.ref q.2.1, q.2.2))[j]? = some (k, v) := e
    rw [List.getElem?_map] at e
    obtain ⟨q', hq', e'⟩ := Option.map_eq_some_iff.mp e
    cases e'
    exact ⟨q'.1, q'.2.1, hq', rfl⟩
  · intro h' hk x hx
    obtain ⟨j, hj⟩ := List.mem_iff_getElem?.mp hx
    obtain ⟨p, e1, e2, e3⟩ := hpr j x hj
    exact tupleKind_stays.stays (fun b ob vs n' e _ => hk b ob (Nat.ne_of_lt (Heap.lt_size e)) (fun z => nomatch z) e) e3
  · rw [hs, List.nil_append] at hd'
    have hm : (s.heap.objs.size == sysModules) = false := beq_eq_false_iff_ne.mpr (Nat.ne_of_gt I.big)
    have fr : H s.heap.objs.size = none := I.hok.fresh (Nat.le_refl _)
    obtain ⟨od, es, ep, g1, g2, g3, g4, g5, g6⟩ := hd'
    refine ⟨.ref s.heap.objs.size, upd H s.heap.objs.size (.dT kvs), I.laid (t' := tk) (fun b ob e => k b ob (fun z => nomatch z) e) (Nat.le_refl _) (show ObjOk X.prog X.w _ _ _ (.dT kvs) from ⟨?_, hm, prs, ?_, od, es, ep, g1, g2, g3, g4, g6⟩), rfl, q _ fr⟩
    · rw [show kvs.length = prs.length from Paired.length rel, hl]
      exact hz
    · have mono : ∀ (o : HO) {l : List (List Key × V)} {m : List (List Key × Addr × Value)}, Paired (fun (p : List Key × V) (q : List Key × Addr × Value) => p.1 = q.1 ∧ H q.2.1 = some (.tup (p.1.map kV)) ∧ RelV p.2 q.2.2) l m →
          Paired (fun (p : List Key × V) (q : List Key × Addr × Value) => p.1 = q.1 ∧ (upd H s.heap.objs.size o) q.2.1 = some (.tup (p.1.map kV)) ∧ RelV p.2 q.2.2) l m := fun o l m r => by
        induction r with
        | nil => exact .nil
        | cons h t ih => exact .cons ⟨h.1, by rw [upd_ne (ne_of_none h.2.1 fr)]; exact h.2.1, h.2.2⟩ ih
      exact mono _ rel
end
/-! ### sorted of pairs -/
section
variable {P : Program} {w : World}
/-- v is a tuple of the room and the sign of k -/
def PairIn (P : Program) (w : World) (h : Heap) (v : Value) (k : RS) : Prop :=
  ∃ (t : Addr) (o : Obj) (n : Nat) (t1 t2 : Tok), v = .ref t ∧ h.get? t = some o ∧ o.cls = .type "tuple" ∧ o.data = .seq #[.int k.1 t1, .str k.2 t2] n
theorem PairIn.keeps {h h' : Heap} {v : Value} {k : RS} (x : PairIn P w h v k) (kp : ∀ b o, h.get? b = some o → o.cls = .type "tuple" → h'.get? b = some o) : PairIn P w h' v k := by
  obtain ⟨t, o, n, t1, t2, e, ho, hc, hd⟩ := x
  exact ⟨t, o, n, t1, t2, e, kp _ _ ho hc, hc, hd⟩
theorem firstsP {h : Heap} {kf : Value → RS} : ∀ vs : List Value, (∀ v ∈ vs, PairIn P w h v (kf v)) → ∃ fs : List Value, PySem.W.KatTups h vs fs ∧ fs.length = vs.length ∧ ∀ f ∈ fs, ∃ i t, f = Value.int i t
  | [], _ => ⟨[], PySem.W.KatTups.nil, rfl, fun f hf => by cases hf⟩
  | v :: vs, x => by
    obtain ⟨fs, k, hl, hi⟩ := firstsP vs fun u hu => x u (List.mem_cons_of_mem _ hu)
    obtain ⟨t, o, n, t1, t2, rfl, ho, hc, hd⟩ := x v List.mem_cons_self
    refine ⟨.int _ t1 :: fs, PySem.W.KatTups.cons ho hc hd rfl k, by rw [List.length_cons, List.length_cons, hl], fun f hf => ?_⟩
    rcases List.mem_cons.mp hf with rfl | hf
    · exact ⟨_, _, rfl⟩
    · exact hi f hf
theorem kind_pairs {A : Around} {E : Value → Shared → Prop} {s : Shared} {vs : List Value} {kf : Value → RS} {r : Value → Int} (h2 : 2 ≤ vs.length) (hu : A.units < cLine) (x : ∀ v ∈ vs, PairIn P w s.heap v (kf v)) (one : ∀ v ∈ vs, ∀ u ∈ vs, kf v = kf u → v = u)
    (hr : ∀ v ∈ vs, ∀ u ∈ vs, decide (r v < r u) = rsLt (kf v) (kf u)) (Q : SortKind → Shared → Prop) (h : ∀ κ, TS.Cmp P w A s κ (pairsOf vs) r → Q κ s) : wpAny (model P w) A (keyKind' vs.toArray) Q E s := by
  obtain ⟨fs, k, hl, hi⟩ := firstsP vs x
  refine PySem.W.kat_kind (T := Value.type "int") k (by omega) (fun f hf => ?_) rfl (h _ ?_)
  · obtain ⟨i, t, rfl⟩ := hi f hf
    exact PySem.W.Looks.of_pure rfl
  · intro p q hp hq Q' E' hQ
    rw [pairsOf_toList] at hp hq
    have mp := (mem_zip_self hp).2
    have mq := (mem_zip_self hq).2
    have hQ : Q' (rsLt (kf p.1) (kf q.1)) s := by
      rw [← hr _ mp _ mq]
      exact hQ
    obtain ⟨t, o, n, t1, t2, e1, ho, hc, hd⟩ := x _ mp
    obtain ⟨t', o', n', t1', t2', e2, ho', hc', hd'⟩ := x _ mq
    rw [e1, e2]
    generalize kf p.1 = a at *
    generalize kf q.1 = b at *
    refine PySem.W.kat_lt ho hd ho' hd' ?_
    show PySem.W.KatLex P w A true false Q' [(.int a.1 t1, .int b.1 t1'), (.str a.2 t2, .str b.2 t2')] 0 s
    refine PySem.W.kat_cons (wpAny_eqBool_int ?_)
    refine PySem.W.kat_go (fun e => PySem.W.kat_yes ?_) (fun e => PySem.W.kat_no ?_)
    · have e := of_decide_eq_true e
      refine PySem.W.kat_cons (wpAny_eqBool_str ?_)
      refine PySem.W.kat_go (fun e' => PySem.W.kat_yes ?_) (fun e' => PySem.W.kat_no ?_)
      · have e' := of_decide_eq_true e'
        have ab : a = b := Prod.ext e e'
        rw [ab, rsLt_irr] at hQ
        exact PySem.W.kat_nil hQ
      · show wpAny _ _ (oneLt' false _ _) _ _ _
        refine PySem.W.kat_one _ _ (lt_str ?_)
        have : rsLt a b = decide (a.2.cps.toList < b.2.cps.toList) := by
          unfold rsLt
          rw [decide_eq_false (by omega), decide_eq_true e]
          rfl
        rw [this] at hQ
        exact hQ
    · show wpAny _ _ (oneLt' true _ _) _ _ _
      refine oneLt_int ?_
      have ne : ¬ a.1 = b.1 := by simpa using e
      have : rsLt a b = decide (a.1 < b.1) := by
        unfold rsLt
        rw [decide_eq_false ne, Bool.false_and, Bool.or_false]
      rw [this] at hQ
      exact hQ
theorem sort_pairs {A : Around} {E : Value → Shared → Prop} {s : Shared} {a : Addr} {vs : List Value} {n : Nat} {Q : PySem.Fin → Shared → Prop} {kf : Value → RS} (ho : s.heap.get? a = some (seqObj "list" vs.toArray n)) (h64 : vs.length < 64) (hu : A.units < cLine)
    (x : ∀ v ∈ vs, PairIn P w s.heap v (kf v)) (one : ∀ v ∈ vs, ∀ u ∈ vs, kf v = kf u → v = u)
    (h : ∀ out : Array Value, out.toList.Perm vs → out.toList.Pairwise (fun u v => rsLt (kf v) (kf u) = false) → Q (.done (.ret .none)) { s with heap := sortedHeap s.heap a vs out }) : wpAny (model P w) A (Builtin.«list.sort» ⟨[.ref a], []⟩) Q E s := by
  have keep : ∀ b o, s.heap.get? b = some o → o.cls = .type "tuple" → (TS.midHeap s.heap a vs).get? b = some o := fun b o e hc => by
    refine TS.midHeap_old ?_ e
    rintro rfl
    rw [ho] at e
    cases e
    exact absurd (Value.type.inj hc) (by decide)
  have hr : ∀ v ∈ vs, ∀ u ∈ vs, decide (rk (vs.map kf) (kf v) < rk (vs.map kf) (kf u)) = rsLt (kf v) (kf u) := fun v hv u hu => rk_lt (List.mem_map_of_mem hv) (List.mem_map_of_mem hu)
  refine SK.plain_sort (r := fun v => rk (vs.map kf) (kf v)) ho h64 (fun h2 Q' hQ => ?_) fun ps out h1 h2 h3 => ?_
  · exact kind_pairs (s := { s with heap := TS.midHeap s.heap a vs }) h2 hu (fun v hv => (x v hv).keeps keep) one hr Q' hQ
  · obtain ⟨p, o⟩ := TS.out_rank (r := fun v => rk (vs.map kf) (kf v)) h1 h2 h3
    refine h out p (List.Pairwise.imp_of_mem (fun {u v} hu hv hle => ?_) o)
    rw [← hr v (p.mem_iff.mp hv) u (p.mem_iff.mp hu)]
    exact decide_eq_false (by omega)
end
section
variable {X : Cx}
theorem pair_in {pins : List (Addr × Obj)} {σ : L2.St} {H : Hp} {s : Shared} (I : Inv X pins σ H s) {t : Addr} {k : RS} (h : H t = some (.tup [.int k.1, .str k.2])) : PairIn X.prog X.w s.heap (.ref t) k := by
  obtain ⟨_, its, r, o, ho, hc, n, hd⟩ := (show ObjOk X.prog X.w H s.heap t _ from I.hok t _ h)
  cases r with
  | cons r1 r =>
  cases r with
  | cons r2 r =>
  cases r
  obtain ⟨t1, rfl⟩ := r1
  obtain ⟨t2, rfl⟩ := r2
  exact ⟨t, o, n, t1, t2, rfl, ho, hc, hd⟩
/-- sorted(xs), xs a list of pairs, no two alike -/
def rSortP (K : PySem.W.Frag) : List V → Hp → VK → Prop := fun vs H Q => ∃ (a : Addr) (xs : List V) (kf : V → RS), vs = [V.ref a] ∧ SqL K H a xs ∧ xs.length < 64 ∧ (∀ x ∈ xs, ∃ t, x = .ref t ∧ H t = some (.tup [.int (kf x).1, .str (kf x).2])) ∧
  (∀ x ∈ xs, ∀ y ∈ xs, kf x = kf y → x = y) ∧ ∀ (ys : List V) (p : Addr), ys.Perm xs → ys.Pairwise (fun x y => rsLt (kf y) (kf x) = false) → H p = none → Q (.ref p) (upd H p (.lst ys))
theorem cr_sortP (hu : X.A.units + 2 < cLine) : CallR X (.builtin "sorted") (rSortP X.K) := by
  intro pins s σ H vs us Q I r h
  obtain ⟨a, xs, kf, rfl, hs, h64, hx, one, q⟩ := h
  obtain ⟨its, rv, hl, hz⟩ := I.list hs
  rw [Vals.ref1 r]
  obtain ⟨e1, e2⟩ := bkV_refs rv fun x m => by
    obtain ⟨t, e, _⟩ := hx x m
    exact ⟨t, e⟩
  have st : ∀ v ∈ its, PairIn X.prog X.w s.heap v (kf (bkV v)) := fun v hv => by
    obtain ⟨t, rfl⟩ := e2 v hv
    obtain ⟨t', e, h1⟩ := hx (.ref t) (by rw [e1]; exact List.mem_map.mpr ⟨_, hv, rfl⟩)
    cases e
    exact pair_in I h1
  have on : ∀ v ∈ its, ∀ u ∈ its, kf (bkV v) = kf (bkV u) → v = u := fun v hv u hu e => by
    have := one (bkV v) (by rw [e1]; exact List.mem_map_of_mem hv) (bkV u) (by rw [e1]; exact List.mem_map_of_mem hu) e
    obtain ⟨t, rfl⟩ := e2 v hv
    obtain ⟨t', rfl⟩ := e2 u hu
    cases this
    rfl
  have n64 : its.length < 64 := by rw [← rv.length]; exact h64
  refine Calls.call_function_entry kind_sorted plain_sorted entry_sorted (args_sorted1 _) ?_
  unfold Builtin.«sorted»
  refine wpAny_bind (m := checkCount "sorted" 1 1 _) (wpAny_pure ?_)
  refine wpAny_bind (collect_list hl.isList ?_ (by rw [sizeLine_eq]; omega))
  refine wpAny_bind (wpAny_newList ?_ (by rw [sizeLine_eq]; omega))
  have sz : ((s.heap.push (seqObj "list" #[] 0)).update s.heap.objs.size (Obj.mapSeq (· ++ its.toArray))).objs.size = s.heap.objs.size + 1 := (Heap.size_update ..).trans (size_push' _ _)
  have new : (((s.heap.push (seqObj "list" #[] 0)).update s.heap.objs.size (Obj.mapSeq (· ++ its.toArray))).push (seqObj "list" its.toArray 0)).get? (s.heap.objs.size + 1) = some (seqObj "list" its.toArray 0) := sz ▸ Heap.get?_push_size _ rfl
  have old : ∀ b o, s.heap.get? b = some o → (((s.heap.push (seqObj "list" #[] 0)).update s.heap.objs.size (Obj.mapSeq (· ++ its.toArray))).push (seqObj "list" its.toArray 0)).get? b = some o := fun b o e => by
    have l : b < s.heap.objs.size := Heap.lt_size e
    rw [Heap.get?_push_ne _ _ _ (by rw [sz]; exact Nat.ne_of_lt (Nat.lt_succ_of_lt l)), Heap.get?_update_ne _ _ _ _ (Nat.ne_of_lt l), Heap.get?_push_ne _ _ _ (Nat.ne_of_lt l)]
    exact e
  show wpAny _ _ _ _ _ { s with heap := ((s.heap.push (seqObj "list" #[] 0)).update s.heap.objs.size (Obj.mapSeq (· ++ its.toArray))).push (seqObj "list" its.toArray 0) }
  rw [sz]
  refine wpAny_bind (wpAny_holding (wpAny_call_entry slot_list_sort ⟨_, new, rfl⟩ entry_list_sort (sort_pairs (kf := fun v => kf (bkV v)) new n64 (by show X.A.units + 2 < cLine; exact hu) (fun v hv => (st v hv).keeps fun b o e _ => old b o e) on fun out a1 a2 => ⟨_, rfl, ?_⟩) (args_list_sort _)))
  refine wpAny_pure ⟨_, rfl, ?_⟩
  obtain ⟨ep, he'⟩ := PyProof.Rows.sortedAll_at s.heap its out
  have h3 : ∀ u ∈ out.toList, ∃ a, u = Value.ref a := fun u hu => e2 u (a1.mem_iff.mp hu)
  have hp : (out.toList.map bkV).Perm xs := by
    rw [e1]
    exact a1.map bkV
  refine ⟨.ref _, upd H (s.heap.objs.size + 1) (.lst (out.toList.map bkV)), I.laid (t' := s.toks) (fun _ _ => PyProof.Rows.sortedAll_old) (Nat.le_succ _) ⟨by rw [hp.length_eq]; exact hz, out.toList, ep, bkV_vals h3, he'⟩, rfl, q _ _ hp ?_ (I.hok.fresh (Nat.le_succ _))⟩
  rw [List.pairwise_map]
  exact a2
end
end Fb

/-! Part Z2: == of a thing and an instance with an own __eq__, the thing ahead; in a list of one. -/
namespace Fb
open PySem PySem.Spec PySem.SeqAt
open AutoSeq1 (wpAny_loadPart')
open MeetsSeq MeetsSeq2 MeetsSeq3 SeqRoads2
section
variable {prog : Program} {w : World} {A : Around} {E : Value → Shared → Prop} {s : Shared}
theorem isi_wp {x : Value} {T : String} {b : Bool} (hi : PySem.W.Looks (model prog w) s.heap (isInstance x (.type T)) b) {Q : Bool → Shared → Prop} (h : Q b s) : wpAny (model prog w) A (isInstance x (.type T)) Q E s := hi.here h
theorem list_dec {l x : Addr} {items : Array Value} {n : Nat} {Q : Value → Shared → Prop} (hl : s.heap.get? l = some { cls := .type "list", data := .seq items n }) (hi : PySem.W.Looks (model prog w) s.heap (isInstance (.ref x) (.type "list")) false) (h : Q .notImplemented s) : wpAny (model prog w) A (call (.builtin "list.__eq__") [.ref l, .ref x]) Q E s := by
  refine GQ.call_here F.slot_list_eq ⟨_, hl, rfl⟩ F.entry_list_eq (F.args_list_eq_2 _ _) ?_
  obtain ⟨hp, g, d, tk, os⟩ := s
  wp_walk using wpAny_loadPart' hl, isi_wp hi
  exact h
theorem tuple_dec {l x : Addr} {items : Array Value} {n : Nat} {dd : Option Addr} {sl : Array (Option Value)} {Q : Value → Shared → Prop} (hl : s.heap.get? l = some { cls := .type "tuple", dict := dd, data := .seq items n, slots := sl }) (hi : PySem.W.Looks (model prog w) s.heap (isInstance (.ref x) (.type "tuple")) false) (h : Q .notImplemented s) : wpAny (model prog w) A (call (.builtin "tuple.__eq__") [.ref l, .ref x]) Q E s := by
  refine GQ.call_here F.slot_tuple_eq ⟨_, hl, rfl⟩ F.entry_tuple_eq (F.args_tuple_eq_2 _ _) ?_
  obtain ⟨hp, g, d, tk, os⟩ := s
  wp_walk using wpAny_loadPart' hl, isi_wp hi
  exact h
theorem dict_dec {l x : Addr} {o : Obj} {Q : Value → Shared → Prop} (hl : s.heap.get? l = some o) (hx : o.ExactDict) (hi : PySem.W.Looks (model prog w) s.heap (isInstance (.ref x) (.type "dict")) false) (h : Q .notImplemented s) : wpAny (model prog w) A (call (.builtin "dict.__eq__") [.ref l, .ref x]) Q E s := by
  refine GQ.call_here F.slot_dict_eq ⟨_, hl, hx.1⟩ F.entry_dict_eq (F.args_dict_eq_2 _ _) ?_
  obtain ⟨hp, g, d, tk, os⟩ := s
  wp_walk using wpAny_loadPart' hl, isi_wp hi
  exact h
theorem int_dec {i : Int} {u : Tok} {x C dx : Addr} {Q : Value → Shared → Prop} (hx : s.heap.get? x = some (PySem.W.instObj C dx)) (h : Q .notImplemented s) : wpAny (model prog w) A (call (.builtin "int.__eq__") [.int i u, .ref x]) Q E s := by
  refine GQ.call_here F.slot_int_eq (typeIs_int _ _ _) F.entry_int_eq (F.args_int_eq_2 _ _) ?_
  obtain ⟨hp, g, d, tk, os⟩ := s
  wp_walk using wpAny_loadPart' hx, wpAny_load hx
  exact h
theorem bool_dec {i : Bool} {x C dx : Addr} {Q : Value → Shared → Prop} (hx : s.heap.get? x = some (PySem.W.instObj C dx)) (h : Q .notImplemented s) : wpAny (model prog w) A (call (.builtin "int.__eq__") [.bool i, .ref x]) Q E s := by
  refine GQ.call_here F.slot_bool_eq rfl F.entry_int_eq (F.args_int_eq_2 _ _) ?_
  obtain ⟨hp, g, d, tk, os⟩ := s
  wp_walk using wpAny_loadPart' hx, wpAny_load hx
  exact h
theorem str_dec {i : Str} {u : Tok} {x C dx : Addr} {Q : Value → Shared → Prop} (hx : s.heap.get? x = some (PySem.W.instObj C dx)) (h : Q .notImplemented s) : wpAny (model prog w) A (call (.builtin "str.__eq__") [.str i u, .ref x]) Q E s := by
  refine GQ.call_here F.slot_str_eq (typeIs_str _ _ _) F.entry_str_eq (F.args_str_eq_2 _ _) ?_
  obtain ⟨hp, g, d, tk, os⟩ := s
  wp_walk using wpAny_loadPart' hx, wpAny_load hx
  exact h
theorem none_dec {x : Addr} {Q : Value → Shared → Prop} (h : Q .notImplemented s) : wpAny (model prog w) A (call (.builtin "NoneType.__eq__") [.none, .ref x]) Q E s :=
  call_gives F.slot_NoneType_eq rfl F.entry_NoneType_eq (F.args_NoneType_eq_2 _ _) (NoneType___eq___none_ref_0 x) h
/-- a == x, x an instance of the class at C with the text's own __eq__, a of a built-in type that declines -/
theorem refl_K {K : PySem.W.Frag} {T id : String} {a : Value} {x C f : Addr} {ox : Obj} {od : Option Obj} {Q : Value → Shared → Prop} (hu : A.units < cLine) (X : K.In s.heap) (I : PySem.W.InstAt s.heap x ox C od) (hT : s.TypeIs a T)
    (hsub : PySem.W.subIn K (.ref C) (.type T) = some false) (slot : Slot T "__eq__" id) (dec : ∀ Q' : Value → Shared → Prop, Q' .notImplemented s → wpAny (model prog w) A (call (.builtin id) [a, .ref x]) Q' E s)
    (hs : PySem.W.findIn K (.ref C) "__eq__" = some (some (.ref f))) (hf : PySem.W.isFn K (.ref f) = true)
    (h : wpAny (model prog w) A (call (.ref f) [.ref x, a]) (PySem.W.CmpBack Q) E s) : wpAny (model prog w) A (richCompare .Eq a (.ref x)) Q E s := by
  have one : wpAny (model prog w) A (tryCompare (.ref x) "__eq__" a) (fun r s' => ∃ v, r = some v ∧ Q v s') E s := by
    unfold tryCompare
    refine wpAny_bind (PySem.W.ifBound_K X I hs hf (wpAny_mono h (fun v s' hv => ?_) fun _ _ e => e))
    cases v <;> first | exact hv.elim | exact wpAny_pure ⟨_, rfl, hv⟩
  unfold richCompare
  simp only [hT.oneThing_none]
  refine wpAny_holding (wpAny_bind (wpAny_cRoomFor hu ?_))
  refine wpAny_bind (wpAny_typeOf hT (wpAny_bind (I.type.here ?_)))
  have hne : (Value.type T != Value.ref C) = true := rfl
  simp only [hne, if_true]
  refine wpAny_bind ((PySem.W.looks_subIn X hsub).here ?_)
  simp only [Bool.false_eq_true, if_false]
  refine wpAny_bind (wpAny_tryCompare_declines hT slot (dec _ ⟨rfl, ?_⟩))
  simp only [Bool.not_false, if_true]
  refine wpAny_bind (wpAny_mono one (fun r s' z => ?_) fun _ _ e => e)
  obtain ⟨v, rfl, hq⟩ := z
  exact wpAny_pure hq
end
section
open PyProof.Rows L2
variable {X : Cx} {k : Nat} {C f : Addr} {fd : FuncData} {ps : List Str} {sp : Sp}
/-- things of built-in types -/
inductive OddE (K : PySem.W.Frag) (H : Hp) : V → String → Prop
  | non : OddE K H .non "NoneType"
  | bl (b : Bool) : OddE K H (.bl b) "bool"
  | int (i : Int) : OddE K H (.int i) "int"
  | str (z : Str) : OddE K H (.str z) "str"
  | lst {a : Addr} {xs : List V} (h : H a = some (.lst xs)) : OddE K H (.ref a) "list"
  | tup {a : Addr} {xs : List V} (h : H a = some (.tup xs)) : OddE K H (.ref a) "tuple"
  | dic {a : Addr} {kvs : List (Key × V)} (h : H a = some (.dK kvs)) : OddE K H (.ref a) "dict"
def rOwnR (K : PySem.W.Frag) (C : Addr) (sp : Sp) : R2 := fun x y H Q => ∃ a dx fs T, y = .ref a ∧ H a = some (.ins C dx fs) ∧ OddE K H x T ∧ PySem.W.subIn K (.ref C) (.type T) = some false ∧ sp [y, x] H (fun v H' => ∃ r, v = .bl r ∧ Q (.bl r) H') E0
theorem op_eqR (F : FnOk X.prog X.w X.K X.mg X.base CX0 k f fd ps sp) (hr : Room (k + 1) X.A) (hb : Binds X.K fd ps []) (hs : PySem.W.findIn X.K (.ref C) "__eq__" = some (some (.ref f))) (hf : PySem.W.isFn X.K (.ref f) = true) :
    OpR X (compareOp .Eq) (rOwnR X.K C sp) := by
  intro pins s σ H x y v u Q I rx ry h
  obtain ⟨a, dx, fs, T, rfl, ha, od, hsub, hsp⟩ := h
  cases ry
  obtain ⟨mA, J, _⟩ := ins_get I.hok ha
  have hob : s.heap.get? a = some (PySem.W.instObj C dx) := by
    obtain ⟨_, _, _, e, _⟩ := (show ObjOk X.prog X.w H s.heap a (.ins C dx fs) from I.hok a _ ha)
    exact e
  obtain ⟨od', J, _⟩ := J.look
  have isi : ∀ T', PySem.W.subIn X.K (.ref C) (.type T') = some false → PySem.W.Looks (model X.prog X.w) s.heap (isInstance (.ref a) (.type T')) false := fun T' h => J.type.andThen (PySem.W.looks_subIn I.kIn h)
  have fin : wpAny (model X.prog X.w) X.A (call (.ref f) [.ref a, v]) (PySem.W.CmpBack (EP X pins σ Q)) X.xe s := by
    refine wpAny_mono (run_in F (hr.mono (Nat.le_succ k)) I.env0 hb I (vs := [.ref a, x]) (.cons rfl (.cons rx .nil)) hsp) (fun r s' z => ?_) fun _ _ e => e
    obtain ⟨z1, H', I', rz, b, rfl, q⟩ := z
    cases rz
    exact ⟨.bl b, H', I', rfl, q⟩
  show wpAny (model X.prog X.w) X.A (richCompare .Eq v (.ref a)) (EP X pins σ Q) X.xe s
  cases od with
  | non =>
    obtain rfl : v = .none := rx
    exact refl_K hr.units0 I.kIn J rfl hsub PySem.F.slot_NoneType_eq (fun Q' h => none_dec h) hs hf fin
  | bl b =>
    obtain rfl : v = .bool b := rx
    exact refl_K hr.units0 I.kIn J rfl hsub PySem.F.slot_bool_eq (fun Q' h => bool_dec hob h) hs hf fin
  | int i =>
    obtain ⟨t, rfl⟩ := rx
    exact refl_K hr.units0 I.kIn J (typeIs_int _ _ _) hsub PySem.F.slot_int_eq (fun Q' h => int_dec hob h) hs hf fin
  | str z =>
    obtain ⟨t, rfl⟩ := rx
    exact refl_K hr.units0 I.kIn J (typeIs_str _ _ _) hsub PySem.F.slot_str_eq (fun Q' h => str_dec hob h) hs hf fin
  | lst h =>
    cases rx
    obtain ⟨_, its, n, _, e⟩ := (show ObjOk X.prog X.w H s.heap _ (.lst _) from I.hok _ _ h)
    exact refl_K hr.units0 I.kIn J ⟨_, e, rfl⟩ hsub PySem.F.slot_list_eq (fun Q' h => list_dec e (isi _ hsub) h) hs hf fin
  | tup h =>
    cases rx
    obtain ⟨_, its, _, o, ho, hc, n, hd⟩ := (show ObjOk X.prog X.w H s.heap _ (.tup _) from I.hok _ _ h)
    obtain ⟨cls, dd, data, sl⟩ := o
    simp only at hc hd
    subst hc hd
    exact refl_K hr.units0 I.kIn J ⟨_, ho, rfl⟩ hsub PySem.F.slot_tuple_eq (fun Q' h => tuple_dec ho (isi _ hsub) h) hs hf fin
  | dic h =>
    cases rx
    obtain ⟨_, _, vs, _, hd⟩ := (show ObjOk X.prog X.w H s.heap _ (.dK _) from I.hok _ _ h)
    obtain ⟨o, es, ep, ho, hx, _⟩ := hd
    exact refl_K hr.units0 I.kIn J ⟨_, ho, hx.1⟩ hsub PySem.F.slot_dict_eq (fun Q' h => dict_dec ho hx (isi _ hsub) h) hs hf fin
/-- x in [v] -/
def rInOne (D : EqvB) : R2 := fun x y H Q => ∃ p v b, y = .ref p ∧ H p = some (.lst [v]) ∧ D v x b H ∧ Q (.bl b) H
theorem op_inOne {n : Nat} {D : EqvB} (h : EqB X n D) (hr : Room (n + 1) X.A) : OpR X (compareOp .In) (rInOne D) := by
  intro pins s σ H x y u v Q I rx ry hq
  obtain ⟨p, e, b, rfl, hp, d, q⟩ := hq
  cases ry
  obtain ⟨_, its, k, r, ep⟩ := (show ObjOk X.prog X.w H s.heap p (.lst [e]) from I.hok p _ hp)
  obtain ⟨w, ew, re⟩ := vals1 r
  have i0 : its.toArray[Int.toNat 0]? = some w := by rw [ew]; rfl
  have i1 : its.toArray[Int.toNat (0 + 1)]? = none := by rw [ew]; rfl
  generalize its.toArray = items at *
  clear ew r
  show wpAny (model X.prog X.w) X.A (do return Value.bool (← contains (.ref p) u)) (EP X pins σ Q) X.xe s
  have he := h X.A.in1 pins s σ H e x w u b ⟨hr.in1, rfl⟩ I re rx d
  refine wpAny_bind (wpAny_contains_slot ⟨_, ep, rfl⟩ PySem.F.slot_list_contains (GQ.call_here PySem.F.slot_list_contains ⟨_, ep, rfl⟩ PySem.F.entry_list_contains (PySem.F.args_list_contains_2 _ _) ?_))
  obtain ⟨hp', g, d', tk, os⟩ := s
  wp_walk using wpAny_loadPart' ep
  refine ⟨plainId_quiet plain_contains_loop _, codeAny_builtin entry_contains_loop ?_⟩
  rw [Around.under_plainId plain_contains_loop _]
  wp_walk using wpAny_loadPart' ep
  rw [i0]
  refine wpAny_bind (wpAny_mono he (fun r s' z => ?_) fun _ _ x => x)
  obtain ⟨rfl, I'⟩ := z
  obtain ⟨_, its', k', r', ep'⟩ := (show ObjOk X.prog X.w H s'.heap p (.lst [e]) from I'.hok p _ hp)
  obtain ⟨w', ew', _⟩ := vals1 r'
  have i1' : its'.toArray[Int.toNat (0 + 1)]? = none := by rw [ew']; rfl
  generalize its'.toArray = items' at *
  clear ew' r'
  obtain ⟨hp2, g2, d2, tk2, os2⟩ := s'
  cases r with
  | true =>
    wp_walk
    exact wpAny_truthy_bool (wpAny_pure ⟨.bl true, H, I', rfl, q⟩)
  | false =>
    wp_walk
    refine ⟨plainId_quiet plain_contains_loop _, codeAny_builtin entry_contains_loop ?_⟩
    rw [Around.under_plainId plain_contains_loop _]
    wp_walk using wpAny_loadPart' ep'
    rw [i1']
    wp_walk
    exact wpAny_truthy_bool (wpAny_pure ⟨.bl false, H, I', rfl, q⟩)
end
end Fb

/-! Part S9: zip of any two of lists and tuples. -/
namespace Fb
open PySem PySem.Spec PyProof.Rows L2
/-- a list or a tuple -/
inductive Src where
  | l
  | t
def Src.it (k : Src) (h : Heap) (i a : Addr) (n : Nat) : Prop := match k with
  | .l => h.IsListIter i a n
  | .t => h.IsTupleIter i a n
def Src.has (k : Src) (h : Heap) (a : Addr) (xs : Array Value) : Prop := match k with
  | .l => h.IsList a xs
  | .t => h.IsTuple a xs
def Src.sq (k : Src) (K : PySem.W.Frag) (H : Hp) (a : Addr) (xs : List V) : Prop := match k with
  | .l => SqL K H a xs
  | .t => SqT K H a xs
abbrev Src.nm (k : Src) : String := match k with
  | .l => "list_iterator"
  | .t => "tuple_iterator"
theorem Src.it_mv {k : Src} {h h' : Heap} {i a : Addr} {n : Nat} (x : k.it h i a n) (f : ∀ o, h.get? i = some o → h'.get? i = some o) : k.it h' i a n := by
  cases k <;> obtain ⟨o, ho, r⟩ := x <;> exact ⟨o, f o ho, r⟩
theorem Src.has_mv {k : Src} {h h' : Heap} {a : Addr} {xs : Array Value} (x : k.has h a xs) (f : ∀ o, h.get? a = some o → h'.get? a = some o) : k.has h' a xs := by
  cases k <;> obtain ⟨o, ho, r⟩ := x <;> exact ⟨o, f o ho, r⟩
theorem Src.it_ob {k : Src} {h : Heap} {i a : Addr} {n : Nat} (x : k.it h i a n) : ∃ o, h.get? i = some o ∧ ∀ v, o.data ≠ .cell v := by
  cases k <;> obtain ⟨o, ho, _, d⟩ := x <;> exact ⟨o, ho, fun v q => by rw [d] at q; cases q⟩
theorem Src.it_lt {k : Src} {h : Heap} {i a : Addr} {n : Nat} (x : k.it h i a n) : i < h.objs.size := by
  obtain ⟨o, ho, _⟩ := Src.it_ob x
  exact Heap.lt_size ho
section
variable {prog : Program} {w : World} {A : Around} {E : Value → Shared → Prop} {s : Shared}
theorem src_item {k : Src} {i a : Addr} {n : Nat} {xs : Array Value} {x : Value} {Q : Value → Shared → Prop} (hi : k.it s.heap i a n) (ha : k.has s.heap a xs) (hx : xs[n]? = some x) (q : ∀ h', k.it h' i a (n + 1) → Heap.SameBut i s.heap h' → Q x { s with heap := h' }) : wpAny (model prog w) A (Builtin.SmallTypes.nextOf (.ref i)) Q E s := by
  cases k
  · exact wpAny_nextOf_list_item hi ha hx q
  · exact RZ.nextOf_tuple_item hi ha hx q
theorem src_stop {k : Src} {i a : Addr} {n : Nat} {xs : Array Value} {Q : Value → Shared → Prop} (hh : A.handled = none) (hi : k.it s.heap i a n) (ha : k.has s.heap a xs) (hx : xs[n]? = none) (q : ∀ h' e, Heap.ExtBut i s.heap h' → (∃ o, h'.get? e = some o ∧ o.cls = .type "StopIteration") → E (.ref e) { s with heap := h' }) : wpAny (model prog w) A (Builtin.SmallTypes.nextOf (.ref i)) Q E s := by
  cases k
  · exact wpAny_nextOf_list_end hh hi ha hx q
  · exact RZ.nextOf_tuple_end hh hi ha hx q
/-- what a zip of two sources is -/
structure ZipAt (k1 k2 : Src) (h : Heap) (z TI TO i1 i2 a b : Addr) (n1 n2 : Nat) (f : Value) : Prop where
  zip : IsZip h z TI TO f
  its : IsPair h TI (.ref i1) (.ref i2)
  out : ∃ x y, IsPair h TO x y
  one : k1.it h i1 a n1
  two : k2.it h i2 b n2
theorem zipS_item {k1 k2 : Src} {z TI TO i1 i2 l1 l2 : Addr} {n1 n2 : Nat} {xs ys : Array Value} {x y : Value} {Q : Value → Shared → Prop} (D : ZipApart z TI TO i1 i2 l1 l2) (g : ZipAt k1 k2 s.heap z TI TO i1 i2 l1 l2 n1 n2 .none) (e1 : k1.has s.heap l1 xs) (e2 : k2.has s.heap l2 ys) (hx : xs[n1]? = some x) (hy : ys[n2]? = some y)
    (q : ∀ h', ZipAt k1 k2 h' z TI TO i1 i2 l1 l2 (n1 + 1) (n2 + 1) (rawInt s.heap.objs.size) → IsPair h' s.heap.objs.size x y → h'.objs.size = s.heap.objs.size + 1 → (∀ c o, c ≠ z → c ≠ TO → c ≠ i1 → c ≠ i2 → s.heap.get? c = some o → h'.get? c = some o) → Q (.ref s.heap.objs.size) { s with heap := h' }) :
    wpAny (model prog w) A (Builtin.«zip.__next__» ⟨[.ref z], []⟩) (fun fin s' => ∃ v, fin = .done (.ret v) ∧ Q v s') E s := by
  obtain ⟨hz, hI, ⟨a, b, hO⟩, g1, g2⟩ := g
  show wpAny _ _ (field (.ref z) 2 >>= _) _ _ _
  refine wpAny_bind (wpAny_field hz rfl (x := .bool false) rfl (show wpAny _ _ (field (.ref z) 3 >>= _) _ _ _ from wpAny_bind (wpAny_field hz rfl (x := .ref TI) rfl (wpAny_bind (wpAny_seqItems hI rfl ?_)))))
  refine (show wpAny _ _ (Builtin.SmallTypes.ownedTupleIsFree (.ref z) >>= _) _ _ _ from wpAny_bind ?_)
  unfold Builtin.SmallTypes.ownedTupleIsFree
  refine wpAny_bind (wpAny_field hz rfl (x := .none) rfl (wpAny_pure ?_))
  rw [if_pos rfl]
  refine wpAny_bind (wpAny_rule (wpAny_bind (wpAny_field hz rfl (x := .ref TO) rfl (wpAny_bind (wpAny_setField_rec hz (by simp) fun ha za ba => ?_)))))
  have za : IsZip ha z TI TO .ellipsis := za
  refine wpAny_bind ?_
  simp only [List.zipIdx_cons, List.zipIdx_nil, List.forIn_cons, List.forIn_nil]
  have ka := ba.extBut
  refine wpAny_bind (wpAny_bind (wpAny_onRaise (show wpAny _ _ (Builtin.SmallTypes.nextOf (.ref i1) >>= _) _ _ _ from wpAny_bind (src_item (Src.it_mv g1 fun o => ka _ o D.i1z) (Src.has_mv e1 fun o => ka _ o D.l1z) hx fun hb gb bb => wpAny_pure ?_))))
  have kb := bb.extBut
  have Ob : IsPair hb TO a b := kb _ _ D.TOi1 (ka _ _ D.TOz hO)
  refine wpAny_bind (wpAny_seqItems Ob rfl (wpAny_bind (wpAny_updateSeq_pair Ob fun hc Oc bc => ?_)))
  have Oc : IsPair hc TO x b := Oc
  have kc := bc.extBut
  refine wpAny_bind (wpAny_letGo (wpAny_pure ?_))
  refine wpAny_bind (wpAny_bind (wpAny_onRaise (show wpAny _ _ (Builtin.SmallTypes.nextOf (.ref i2) >>= _) _ _ _ from wpAny_bind (src_item (Src.it_mv g2 fun o u => kc _ o D.TOi2.symm (kb _ o D.i12.symm (ka _ o D.i2z u))) (Src.has_mv e2 fun o u => kc _ o D.l2TO (kb _ o D.l2i1 (ka _ o D.l2z u))) hy fun hd gd bd => wpAny_pure ?_))))
  have kd := bd.extBut
  have Od : IsPair hd TO x b := kd _ _ D.TOi2 Oc
  refine wpAny_bind (wpAny_seqItems Od rfl (wpAny_bind (wpAny_updateSeq_pair Od fun he Oe be => ?_)))
  have Oe : IsPair he TO x y := Oe
  have ke := be.extBut
  refine wpAny_bind (wpAny_letGo (wpAny_pure (wpAny_pure (wpAny_bind (wpAny_seqItems Oe rfl (wpAny_bind (wpAny_newTuple ?_)))))))
  have sz : he.objs.size = s.heap.objs.size := by rw [be.1, bd.1, bc.1, bb.1, ba.1]
  have ze : IsZip he z TI TO .ellipsis := ke _ _ D.TOz.symm (kd _ _ D.i2z.symm (kc _ _ D.TOz.symm (kb _ _ D.i1z.symm za)))
  have kk : ∀ c o, c ≠ z → c ≠ TO → c ≠ i1 → c ≠ i2 → s.heap.get? c = some o → he.get? c = some o := fun c o c1 c2 c3 c4 u => ke _ _ c2 (kd _ _ c4 (kc _ _ c2 (kb _ _ c3 (ka _ _ c1 u))))
  have f1 := Src.it_mv gb (h' := he) fun o u => ke _ o D.TOi1.symm (kd _ o D.i12 (kc _ o D.TOi1.symm u))
  have f2 := Src.it_mv gd (h' := he) fun o u => ke _ o D.TOi2.symm u
  have zl : z < he.objs.size := Heap.lt_size ze
  refine (show wpAny _ _ (Builtin.SmallTypes.ownedTupleHandOut (.ref z) (.ref he.objs.size) >>= _) _ _ _ from wpAny_bind ?_)
  unfold Builtin.SmallTypes.ownedTupleHandOut
  have zf : IsZip (he.push { cls := .type "tuple", data := .seq #[x, y] }) z TI TO .ellipsis := Heap.get?_push_of_some _ ze
  refine wpAny_bind (wpAny_setField_rec zf (by simp) fun hg zg bg => ?_)
  have zg : IsZip hg z TI TO (rawInt he.objs.size) := zg
  refine wpAny_setField_rec zg (by simp) fun hm zm bm => wpAny_pure ⟨_, rfl, ?_⟩
  have zm : IsZip hm z TI TO (rawInt he.objs.size) := zm
  have up : ∀ c o, c ≠ z → he.get? c = some o → hm.get? c = some o := fun c o c1 u => bm.extBut _ _ c1 (bg.extBut _ _ c1 (Heap.get?_push_of_some _ u))
  have pm : IsPair hm he.objs.size x y := bm.extBut _ _ (Nat.ne_of_gt zl) (bg.extBut _ _ (Nat.ne_of_gt zl) (Heap.get?_push_size _ rfl))
  have sm : hm.objs.size = he.objs.size + 1 := by rw [bm.1, bg.1, Heap.size_push]
  rw [sz] at zm pm sm
  show Q (.ref he.objs.size) _
  rw [sz]
  exact q hm ⟨zm, up _ _ D.TIz (kk _ _ D.TIz D.TITO D.TIi1 D.TIi2 hI), ⟨_, _, up _ _ D.TOz Oe⟩, Src.it_mv f1 fun o u => up _ o D.i1z u, Src.it_mv f2 fun o u => up _ o D.i2z u⟩ pm sm fun c o c1 c2 c3 c4 u => up c o c1 (kk c o c1 c2 c3 c4 u)
theorem zipS_stop {k1 k2 : Src} {z TI TO i1 i2 l1 l2 : Addr} {n1 n2 : Nat} {xs ys : Array Value} {Q : Fin → Shared → Prop} (hh : A.handled = none) (D : ZipApart z TI TO i1 i2 l1 l2) (g : ZipAt k1 k2 s.heap z TI TO i1 i2 l1 l2 n1 n2 .none) (e1 : k1.has s.heap l1 xs) (e2 : k2.has s.heap l2 ys) (no : xs[n1]? = none ∨ ys[n2]? = none)
    (q : ∀ h' e, (∀ c o, c ≠ z → c ≠ TO → c ≠ i1 → c ≠ i2 → s.heap.get? c = some o → h'.get? c = some o) → (∃ o, h'.get? e = some o ∧ o.cls = .type "StopIteration") → E (.ref e) { s with heap := h' }) :
    wpAny (model prog w) A (Builtin.«zip.__next__» ⟨[.ref z], []⟩) Q E s := by
  obtain ⟨hz, hI, ⟨a, b, hO⟩, g1, g2⟩ := g
  show wpAny _ _ (field (.ref z) 2 >>= _) _ _ _
  refine wpAny_bind (wpAny_field hz rfl (x := .bool false) rfl (show wpAny _ _ (field (.ref z) 3 >>= _) _ _ _ from wpAny_bind (wpAny_field hz rfl (x := .ref TI) rfl (wpAny_bind (wpAny_seqItems hI rfl ?_)))))
  refine (show wpAny _ _ (Builtin.SmallTypes.ownedTupleIsFree (.ref z) >>= _) _ _ _ from wpAny_bind ?_)
  unfold Builtin.SmallTypes.ownedTupleIsFree
  refine wpAny_bind (wpAny_field hz rfl (x := .none) rfl (wpAny_pure ?_))
  rw [if_pos rfl]
  refine wpAny_bind (wpAny_rule (wpAny_bind (wpAny_field hz rfl (x := .ref TO) rfl (wpAny_bind (wpAny_setField_rec hz (by simp) fun ha za ba => ?_)))))
  have za : IsZip ha z TI TO .ellipsis := za
  refine wpAny_bind ?_
  simp only [List.zipIdx_cons, List.zipIdx_nil, List.forIn_cons, List.forIn_nil]
  have ka := ba.extBut
  have last : ∀ {h e : _}, IsZip h z TI TO .ellipsis → (∃ o, h.get? e = some o ∧ o.cls = .type "StopIteration") → (∀ c o, c ≠ z → c ≠ TO → c ≠ i1 → c ≠ i2 → s.heap.get? c = some o → h.get? c = some o) →
      ∀ h', Heap.SameBut z h h' → E (.ref e) { s with heap := h' } := fun {h e} hz1 he kp h' sb => by
    obtain ⟨oe, u1, u2⟩ := he
    have ne : e ≠ z := fun v => by
      subst v
      rw [hz1] at u1
      cases u1
      simp at u2
    exact q h' e (fun c o c1 c2 c3 c4 u => sb.extBut _ _ c1 (kp c o c1 c2 c3 c4 u)) ⟨oe, sb.extBut _ _ ne u1, u2⟩
  refine wpAny_bind (wpAny_bind (wpAny_onRaise (show wpAny _ _ (Builtin.SmallTypes.nextOf (.ref i1) >>= _) _ _ _ from ?_)))
  cases hx : xs[n1]? with
  | none =>
    refine wpAny_bind (src_stop hh (Src.it_mv g1 fun o => ka _ o D.i1z) (Src.has_mv e1 fun o => ka _ o D.l1z) hx fun hb e kb he => ?_)
    have zb : IsZip hb z TI TO .ellipsis := kb _ _ D.i1z.symm za
    exact wpAny_setField_rec zb (by simp) fun hc _ bc => last zb he (fun c o c1 _ c3 _ u => kb _ _ c3 (ka _ _ c1 u)) hc bc
  | some x =>
    have hy : ys[n2]? = none := no.resolve_left fun u => by rw [hx] at u; cases u
    refine wpAny_bind (src_item (Src.it_mv g1 fun o => ka _ o D.i1z) (Src.has_mv e1 fun o => ka _ o D.l1z) hx fun hb gb bb => wpAny_pure ?_)
    have kb := bb.extBut
    have Ob : IsPair hb TO a b := kb _ _ D.TOi1 (ka _ _ D.TOz hO)
    refine wpAny_bind (wpAny_seqItems Ob rfl (wpAny_bind (wpAny_updateSeq_pair Ob fun hc Oc bc => wpAny_bind (wpAny_letGo (wpAny_pure ?_)))))
    have kc := bc.extBut
    refine wpAny_bind (wpAny_bind (wpAny_onRaise (show wpAny _ _ (Builtin.SmallTypes.nextOf (.ref i2) >>= _) _ _ _ from wpAny_bind (src_stop hh (Src.it_mv g2 fun o u => kc _ o D.TOi2.symm (kb _ o D.i12.symm (ka _ o D.i2z u))) (Src.has_mv e2 fun o u => kc _ o D.l2TO (kb _ o D.l2i1 (ka _ o D.l2z u))) hy fun hd e kd he => ?_))))
    have zd : IsZip hd z TI TO .ellipsis := kd _ _ D.i2z.symm (kc _ _ D.TOz.symm (kb _ _ D.i1z.symm za))
    exact wpAny_setField_rec zd (by simp) fun hf _ bf => last zd he (fun c o c1 c2 c3 c4 u => kd _ _ c4 (kc _ _ c2 (kb _ _ c3 (ka _ _ c1 u)))) hf bf
theorem nextS_item {k1 k2 : Src} {z TI TO i1 i2 l1 l2 : Addr} {n1 n2 : Nat} {xs ys : Array Value} {x y : Value} {Q : Option Value → Shared → Prop} (D : ZipApart z TI TO i1 i2 l1 l2) (g : ZipAt k1 k2 s.heap z TI TO i1 i2 l1 l2 n1 n2 .none) (e1 : k1.has s.heap l1 xs) (e2 : k2.has s.heap l2 ys) (hx : xs[n1]? = some x) (hy : ys[n2]? = some y)
    (q : ∀ h', ZipAt k1 k2 h' z TI TO i1 i2 l1 l2 (n1 + 1) (n2 + 1) (rawInt s.heap.objs.size) → IsPair h' s.heap.objs.size x y → h'.objs.size = s.heap.objs.size + 1 → (∀ c o, c ≠ z → c ≠ TO → c ≠ i1 → c ≠ i2 → s.heap.get? c = some o → h'.get? c = some o) → Q (some (.ref s.heap.objs.size)) { s with heap := h' }) :
    wpAny (model prog w) A (pyNext (.ref z)) Q E s := by
  have ty : s.TypeIs (.ref z) "zip" := ⟨_, g.zip, rfl⟩
  unfold pyNext
  exact wpAny_bind (wpAny_attempt (wpAny_callSpecial?_slot (name := Str.ofString "__next__") ty F.slot_zip_next (wpAny_call_entry F.slot_zip_next ty F.entry_zip_next (zipS_item D g e1 e2 hx hy fun h' a b c d => wpAny_pure (q h' a b c d)) (F.args_zip_next_1 _))))
theorem nextS_stop {k1 k2 : Src} {z TI TO i1 i2 l1 l2 : Addr} {n1 n2 : Nat} {xs ys : Array Value} {Q : Option Value → Shared → Prop} (hh : A.handled = none) (D : ZipApart z TI TO i1 i2 l1 l2) (g : ZipAt k1 k2 s.heap z TI TO i1 i2 l1 l2 n1 n2 .none) (e1 : k1.has s.heap l1 xs) (e2 : k2.has s.heap l2 ys) (no : xs[n1]? = none ∨ ys[n2]? = none)
    (q : ∀ h', (∀ c o, c ≠ z → c ≠ TO → c ≠ i1 → c ≠ i2 → s.heap.get? c = some o → h'.get? c = some o) → Q none { s with heap := h' }) : wpAny (model prog w) A (pyNext (.ref z)) Q E s := by
  have ty : s.TypeIs (.ref z) "zip" := ⟨_, g.zip, rfl⟩
  unfold pyNext
  refine wpAny_bind (wpAny_attempt (wpAny_callSpecial?_slot (name := Str.ofString "__next__") ty F.slot_zip_next (wpAny_call_entry F.slot_zip_next ty F.entry_zip_next (zipS_stop hh D g e1 e2 no fun h' e hk he => ?_) (F.args_zip_next_1 _))))
  obtain ⟨o, ho, hc⟩ := he
  exact wpAny_bind (wpAny_isInstance (T := "StopIteration") (b := true) ⟨o, ho, hc⟩ isSubtype_stop (wpAny_pure (q _ hk)))
end
/-! ### zip(a, b) -/
abbrev zS1 (k : Src) (h : Heap) (a : Addr) : Heap := h.push { cls := .type k.nm, data := .fields #[.ref a, .int 0 0] }
abbrev zS3 (k1 k2 : Src) (h : Heap) (a b : Addr) : Heap := (zS1 k2 (zS1 k1 h a) b).push { cls := .type "tuple", data := .seq #[.ref h.objs.size, .ref (zS1 k1 h a).objs.size] }
abbrev zS4 (k1 k2 : Src) (h : Heap) (a b : Addr) : Heap := (zS3 k1 k2 h a b).push { cls := .type "tuple", data := .seq #[.none, .none] }
abbrev zS5 (k1 k2 : Src) (h : Heap) (a b : Addr) : Heap := (zS4 k1 k2 h a b).push { cls := .type "zip", data := .fields #[.none, .bool false, .bool false, .ref (zS1 k2 (zS1 k1 h a) b).objs.size, .ref (zS3 k1 k2 h a b).objs.size] }
set_option maxHeartbeats 1600000 in
theorem zipS_new (k1 k2 : Src) (a b : Addr) (xs ys : Array Value) : Meets (Builtin.«zip.__new__» ⟨[.type "zip", .ref a, .ref b], []⟩) (fun _ R s => k1.has s.heap a xs ∧ k2.has s.heap b ys ∧ R (.ok (.ret (.ref (zS4 k1 k2 s.heap a b).objs.size))) { s with heap := zS5 k1 k2 s.heap a b }) :=
  .of_wp fun prog w A R s h => by
    obtain ⟨hp, g, d, tk, os⟩ := s
    obtain ⟨p1, p2, h⟩ := h
    have p2' := Src.has_mv p2 (h' := zS1 k1 hp a) fun o e => Heap.get?_push_of_some _ e
    have hsub := sub_zip
    cases k1 <;> cases k2
    · have q1 : Heap.IsList (Shared.heap ⟨hp, g, d, tk, os⟩) a xs := p1
      have q2 : Heap.IsList (Shared.heap ⟨zS1 .l hp a, g, d, tk, os⟩) b ys := p2'
      wp_walk using wpAny_pyIter_list q1, wpAny_pyIter_list q2
      exact ⟨_, rfl, h⟩
    · have q1 : Heap.IsList (Shared.heap ⟨hp, g, d, tk, os⟩) a xs := p1
      have q2 : Heap.IsTuple (Shared.heap ⟨zS1 .l hp a, g, d, tk, os⟩) b ys := p2'
      wp_walk using wpAny_pyIter_list q1, wpAny_pyIter_tuple q2
      exact ⟨_, rfl, h⟩
    · have q1 : Heap.IsTuple (Shared.heap ⟨hp, g, d, tk, os⟩) a xs := p1
      have q2 : Heap.IsList (Shared.heap ⟨zS1 .t hp a, g, d, tk, os⟩) b ys := p2'
      wp_walk using wpAny_pyIter_tuple q1, wpAny_pyIter_list q2
      exact ⟨_, rfl, h⟩
    · have q1 : Heap.IsTuple (Shared.heap ⟨hp, g, d, tk, os⟩) a xs := p1
      have q2 : Heap.IsTuple (Shared.heap ⟨zS1 .t hp a, g, d, tk, os⟩) b ys := p2'
      wp_walk using wpAny_pyIter_tuple q1, wpAny_pyIter_tuple q2
      exact ⟨_, rfl, h⟩
theorem call_zipS {prog : Program} {w : World} {A : Around} {E : Value → Shared → Prop} {s : Shared} {k1 k2 : Src} {a b : Addr} {xs ys : Array Value} {Q : Value → Shared → Prop} (p1 : k1.has s.heap a xs) (p2 : k2.has s.heap b ys)
    (q : ∀ h', ZipAt k1 k2 h' (s.heap.objs.size + 4) (s.heap.objs.size + 2) (s.heap.objs.size + 3) s.heap.objs.size (s.heap.objs.size + 1) a b 0 0 .none → (∀ c o, s.heap.get? c = some o → h'.get? c = some o) → Q (.ref (s.heap.objs.size + 4)) { s with heap := h' }) :
    wpAny (model prog w) A (call (.type "zip") [.ref a, .ref b]) Q E s := by
  refine callType_new F.called_zip (by decide) (F.typeCall_zip_2 _ _) (F.newCall_zip_2 _ _) (fun obj => F.args_object_init_3 obj _ _) F.entry_zip_new (zipS_new k1 k2 a b xs ys) ⟨p1, p2, ?_⟩
  have n1 : (zS1 k1 s.heap a).objs.size = s.heap.objs.size + 1 := Heap.size_push ..
  have n2 : (zS1 k2 (zS1 k1 s.heap a) b).objs.size = s.heap.objs.size + 2 := by rw [Heap.size_push, n1]
  have n3 : (zS3 k1 k2 s.heap a b).objs.size = s.heap.objs.size + 3 := by rw [Heap.size_push, n2]
  have n4 : (zS4 k1 k2 s.heap a b).objs.size = s.heap.objs.size + 4 := by rw [Heap.size_push, n3]
  have m5 : (zS5 k1 k2 s.heap a b).get? (zS4 k1 k2 s.heap a b).objs.size = some _ := Heap.get?_push_size _ rfl
  have m4 : (zS5 k1 k2 s.heap a b).get? (zS3 k1 k2 s.heap a b).objs.size = some _ := Heap.get?_push_of_some _ (Heap.get?_push_size _ rfl)
  have m3 : (zS5 k1 k2 s.heap a b).get? (zS1 k2 (zS1 k1 s.heap a) b).objs.size = some _ := Heap.get?_push_of_some _ (Heap.get?_push_of_some _ (Heap.get?_push_size _ rfl))
  have m2 : (zS5 k1 k2 s.heap a b).get? (zS1 k1 s.heap a).objs.size = some _ := Heap.get?_push_of_some _ (Heap.get?_push_of_some _ (Heap.get?_push_of_some _ (Heap.get?_push_size _ rfl)))
  have m1 : (zS5 k1 k2 s.heap a b).get? s.heap.objs.size = some _ := Heap.get?_push_of_some _ (Heap.get?_push_of_some _ (Heap.get?_push_of_some _ (Heap.get?_push_of_some _ (Heap.get?_push_size _ rfl))))
  refine (show _ ∧ _ from ?_)
  rw [n2, n3, n4] at m5
  rw [n1, n2] at m3
  rw [n3] at m4
  rw [n1] at m2
  rw [n4]
  refine ⟨⟨_, m5, rfl⟩, q _ ⟨m5, m3, ⟨_, _, m4⟩, ?_, ?_⟩ fun c o e => Heap.get?_push_of_some _ (Heap.get?_push_of_some _ (Heap.get?_push_of_some _ (Heap.get?_push_of_some _ (Heap.get?_push_of_some _ e))))⟩
  · cases k1 <;> exact ⟨_, m1, rfl, rfl⟩
  · cases k2 <;> exact ⟨_, m2, rfl, rfl⟩
/-! ### the turns -/
def ItzS (k1 k2 : Src) (K : PySem.W.Frag) (a b : Addr) : It :=
  ⟨fun i H => ∃ (xs ys : List V) (x y : V), (k1.sq K H a xs ∧ k2.sq K H b ys) ∧ xs[i]? = some x ∧ ys[i]? = some y, fun i H v H' => ∃ p x y, v = .ref p ∧ H p = none ∧ H' = upd H p (.tup [x, y]) ∧ (∀ xs, k1.sq K H a xs → xs[i]? = some x) ∧ ∀ ys, k2.sq K H b ys → ys[i]? = some y, fun i H => ∃ xs ys : List V, (k1.sq K H a xs ∧ k2.sq K H b ys) ∧ (xs.length ≤ i ∨ ys.length ≤ i)⟩
theorem Src.get {X : Cx} {k : Src} {pins : List (Addr × Obj)} {σ : L2.St} {H : Hp} {s : Shared} (I : Inv X pins σ H s) {a : Addr} {xs : List V} (h : k.sq X.K H a xs) : ∃ its : List Value, Vals xs its ∧ k.has s.heap a its.toArray ∧ a < s.heap.objs.size := by
  cases k
  · obtain ⟨its, rv, p, _⟩ := I.list h
    exact ⟨its, rv, p.isList, p.lt⟩
  · obtain ⟨its, rv, p, _⟩ := I.tuple h
    obtain ⟨o, ho, _⟩ := id p
    exact ⟨its, rv, p, Heap.lt_size ho⟩
theorem Src.inj {X : Cx} {k : Src} {pins : List (Addr × Obj)} {σ : L2.St} {H : Hp} {s : Shared} (I : Inv X pins σ H s) {a : Addr} {xs ys : List V} (h : k.sq X.K H a xs) (h' : k.sq X.K H a ys) : xs = ys := by
  cases k
  · exact I.list_inj h h'
  · exact I.tuple_inj h h'
theorem in5 {z TI TO i1 i2 c : Addr} (h : c ∈ [z, TI, TO, i1, i2]) : c = z ∨ c = TI ∨ c = TO ∨ c = i1 ∨ c = i2 := by simpa using h
theorem turnS {P : Program} {w : World} {K : PySem.W.Frag} {elts : List Expr} {kk : Nat} {tpos : Pos} {k1 k2 : Src} {a b z TI TO i1 i2 : Addr} (D : ZipApart z TI TO i1 i2 a b) :
    Turn P w K (.Tuple elts kk tpos) (ItzS k1 k2 K a b) [z, TI, TO, i1, i2] z (fun i h => ZipAt k1 k2 h z TI TO i1 i2 a b i i .none) where
  mem := List.mem_cons_self
  obj := fun i h st c hc => by
    rcases in5 hc with q | q | q | q | q <;> rw [q]
    · exact ⟨_, st.zip, fun v u => nomatch u⟩
    · exact ⟨_, st.its, fun v u => nomatch u⟩
    · obtain ⟨x, y, e⟩ := st.out
      exact ⟨_, e, fun v u => nomatch u⟩
    · exact Src.it_ob st.one
    · exact Src.it_ob st.two
  keep := fun i h h' st k => by
    obtain ⟨x, y, e⟩ := st.out
    exact ⟨k z (by simp) _ st.zip, k TI (by simp) _ st.its, ⟨x, y, k TO (by simp) _ e⟩, Src.it_mv st.one (k i1 (by simp)), Src.it_mv st.two (k i2 (by simp))⟩
  item := by
    intro X hP hw hK hc i pins s σ H E I hf st hg
    subst hP hw hK
    obtain ⟨xs, ys, x, y, ⟨hqx, hqy⟩, hx, hy⟩ := hg
    obtain ⟨its, rv, p, _⟩ := Src.get I hqx
    obtain ⟨its2, rv2, p2, _⟩ := Src.get I hqy
    obtain ⟨u, hu, ru⟩ := rv.get hx
    obtain ⟨u2, hu2, ru2⟩ := rv2.get hy
    have zl : z < s.heap.objs.size := Heap.lt_size st.zip
    refine nextS_item D st p p2 (x := u) (y := u2) (by simpa using hu) (by simpa using hu2) fun h' z' hT _ hk => ⟨_, rfl, wpAny_letOwnedTupleGo_zip (s := { s with heap := h' }) z'.zip fun h'' z'' sb => ?_⟩
    have away : ∀ c o, c ∉ [z, TI, TO, i1, i2] → s.heap.get? c = some o → h''.get? c = some o := fun c o hb q => (sb.2 c fun v => hb (by simp [v])).trans (hk c o (fun v => hb (by simp [v])) (fun v => hb (by simp [v])) (fun v => hb (by simp [v])) (fun v => hb (by simp [v])) q)
    have hT2 : h''.get? s.heap.objs.size = some { cls := .type "tuple", data := .seq #[u, u2] } := (sb.2 _ (Nat.ne_of_gt zl)).trans hT
    have I1 : Inv X pins σ (upd H s.heap.objs.size (.tup [x, y])) { s with heap := h'' } := I.turnedNew (t' := s.toks) (ch := [z, TI, TO, i1, i2]) away hf (Nat.le_refl _) (show ObjOk X.prog X.w _ h'' s.heap.objs.size (.tup [x, y]) from ⟨by show 2 ≤ sizeLine; decide, [u, u2], .cons ru (.cons ru2 .nil), ⟨_, hT2, rfl, _, rfl⟩⟩)
    obtain ⟨x0, y0, O'⟩ := z'.out
    refine ⟨.ref s.heap.objs.size, _, I1, rfl, ⟨_, x, y, rfl, I.hok.fresh (Nat.le_refl _), rfl, fun l hl => by rw [Src.inj I hl hqx]; exact hx, fun l hl => by rw [Src.inj I hl hqy]; exact hy⟩, ⟨z'', (sb.2 _ D.TIz).trans z'.its, ⟨x0, y0, (sb.2 _ D.TOz).trans O'⟩, Src.it_mv z'.one fun o q => (sb.2 _ D.i1z).trans q, Src.it_mv z'.two fun o q => (sb.2 _ D.i2z).trans q⟩, fun c hcm => ?_⟩
    have lt : c < s.heap.objs.size := by
      obtain ⟨x1, y1, O⟩ := st.out
      rcases in5 hcm with q | q | q | q | q <;> rw [q]
      · exact zl
      · exact Heap.lt_size st.its
      · exact Heap.lt_size O
      · exact Src.it_lt st.one
      · exact Src.it_lt st.two
    rw [upd_ne (Nat.ne_of_lt lt)]
    exact (hf c hcm).1
  done := by
    intro X hP hw hK hc i pins s σ H E I hf st hg
    subst hP hw hK
    obtain ⟨xs, ys, ⟨hqx, hqy⟩, no⟩ := hg
    obtain ⟨its, rv, p, _⟩ := Src.get I hqx
    obtain ⟨its2, rv2, p2, _⟩ := Src.get I hqy
    have l1 := rv.length
    have l2 := rv2.length
    have he : its.toArray[i]? = none ∨ its2.toArray[i]? = none := no.imp (fun q => by simp; omega) (fun q => by simp; omega)
    exact nextS_stop (I.ok.hd hc) D st p p2 he fun h' hk => ⟨rfl, I.turnedL (t' := s.toks) (ch := [z, TI, TO, i1, i2]) (fun c o hb q => hk c o (fun v => hb (by simp [v])) (fun v => hb (by simp [v])) (fun v => hb (by simp [v])) (fun v => hb (by simp [v])) q) hf⟩
  self := fun A i s Q E st h => wpAny_pyIter_zip st.zip h
def iZipS (k1 k2 : Src) (K : PySem.W.Frag) (ta : TA) : TI := fun σ H R => ta σ H fun vs H1 => ∃ a b xs ys, vs = [.ref a, .ref b] ∧ (k1.sq K H1 a xs ∧ k2.sq K H1 b ys) ∧ R (ItzS k1 k2 K a b) H1
theorem pi_zipS {X : Cx} (k1 k2 : Src) {K : PySem.W.Frag} (hK : X.K = K) {e e2 : Expr} {ta : TA} {p pos tpos : Pos} {elts : List Expr} {kk : Nat} (hg : Gl X "zip") (hm : X.mg "zip" = none) (ha : PA X [e, e2] ta) (hs : starEach [e, e2] X.env = (false, eval e X.env) :: starEach [e2] X.env := by rfl) (hpl : (backTo pos (starEach [e2] X.env)).any (·.1) = false := by rfl) :
    PI X (.Tuple elts kk tpos) (.Call (.Name "zip" p) [e, e2] [] pos) (iZipS k1 k2 K ta) := by
  subst hK
  refine ⟨fun pins s σ H R I h => Call_ (ld_blt I hg hm PyProof.Rows.boot_zip (PyProof.Rows.callWith_type1 (thn (ha.run pos pins s σ H _ I h) fun us s1 ⟨vs, H1, I1, r1, q1⟩ => ?_) hs hpl))⟩
  obtain ⟨a, b, xs, ys, ex, ⟨hqx, hqy⟩, q⟩ := q1
  subst ex
  obtain ⟨u1, u2, rfl, ra, rb⟩ := vals2 r1
  cases ra
  cases rb
  obtain ⟨its, rv, p1, lt1⟩ := Src.get I1 hqx
  obtain ⟨its2, rv2, p2, lt2⟩ := Src.get I1 hqy
  refine call_zipS p1 p2 fun h' g hk => wpAny_pyIter_zip g.zip ?_
  have I2 : Inv X pins σ H1 { s1 with heap := h' } := I1.kept (t' := s1.toks) hk
  refine ⟨s1.heap.objs.size + 4, [s1.heap.objs.size + 4, s1.heap.objs.size + 2, s1.heap.objs.size + 3, s1.heap.objs.size, s1.heap.objs.size + 1], _, _, H1, rfl, I2, turnS (PySem.W.ktu_apart s1.heap.objs.size a b lt1 lt2), g, fun c hcm => ?_, q⟩
  have le : s1.heap.objs.size ≤ c := by
    rcases in5 hcm with q | q | q | q | q <;> rw [q] <;> first | exact Nat.le_add_right _ _ | exact Nat.le_refl _
  exact I1.fpOk le (I1.hok.fresh le)
theorem walk_zipS {k1 k2 : Src} {K : PySem.W.Frag} {a b : Addr} {xs ys : List V} {n : Nat} (hn : n = min xs.length ys.length) : Walk (ItzS k1 k2 K a b) n (fun H => k1.sq K H a xs ∧ k2.sq K H b ys) (YPair (fun i => xs[i]?) (fun i => ys[i]?)) := by
  subst hn
  refine ⟨fun i H hi q => ?_, fun H q => ⟨xs, ys, q, by omega⟩, fun i H v H' _ q y => ?_⟩
  · have h1 : i < xs.length := by omega
    have h2 : i < ys.length := by omega
    exact ⟨xs, ys, xs[i], ys[i], q, by simp [h1], by simp [h2]⟩
  · obtain ⟨p, x, z, h1, h2, h3, h4, h5⟩ := y
    exact ⟨p, x, z, h1, h2, h3, h4 xs q.1, h5 ys q.2⟩
end Fb

/-! Part S10: //= by any wide divisor; a dict locked and let go. -/
namespace Fb
open PySem PySem.Spec PyProof.Rows L2
section
variable {X : Cx}
theorem ip_fdivW : PIp X .FloorDiv (ipC CDivW fun i j => i / j) := by
  intro pins s σ H x y v u Q I r1 r2 h
  obtain ⟨i, j, e1, e2, hc, q⟩ := h
  subst e1; subst e2
  obtain ⟨t, rfl⟩ := r1
  obtain ⟨t', rfl⟩ := r2
  have h1 : (0 : Int) < j := hc.1
  refine PyProof.Rows.ifloordiv_int (by omega) ?_ (.inl (PyProof.noPylong_of_log2 hc.2))
  rw [Int.fdiv_eq_ediv_of_nonneg i (by omega)]
  exact ⟨.int _, H, I.tok _, ⟨_, rfl⟩, q⟩
end
theorem upd_back {H : Hp} {d : Addr} {o u : HO} (h : H d = some u) : upd (upd H d o) d u = H := by
  funext b
  by_cases e : b = d
  · rw [e, upd_same, h]
  · rw [upd_ne e, upd_ne e]
theorem frz_ne {H : Hp} {d b : Addr} {u o x : HO} (h : H d = some u) (e : H b = some x) (n : x ≠ u) : (upd H d o) b = some x := by
  rw [upd_ne fun z => n (by rw [z, h] at e; cases e; rfl)]
  exact e
end Fb

/-! Part S11: the values of a dict as a thing, and the list of them. -/
namespace Fb
open PySem PySem.Spec PyProof.Rows L2
section
variable {X : Cx}
def valsO (p d : Addr) : HO := .ext fun h => h.get? p = some { cls := .type "dict_values", data := .fields #[.ref d] }
theorem valsO_ok {P : Program} {w : World} {H : Hp} {h : Heap} {p d : Addr} (e : h.get? p = some { cls := .type "dict_values", data := .fields #[.ref d] }) : ObjOk P w H h p (valsO p d) := ⟨e, ⟨_, e⟩, fun h1 h2 q k => k _ q⟩
def tVals (t : TE) : TE := fun σ H Q => t σ H fun x H1 => ∃ a kvs, x = .ref a ∧ H1 a = some (.dK kvs) ∧ ∀ p, H1 p = none → Q (.ref p) (upd H1 p (valsO p a))
theorem pe_vals {e : Expr} {t : TE} {apos pos : Pos} (he : PE X e t) (hbase : attributeBase e "values" X.env (eval e X.env) = eval e X.env := by rfl) (hline : (apos.endLine == pos.line) = true := by rfl) : PE X (.Call (.Attribute e "values" apos) [] [] pos) (tVals t) := by
  refine ⟨fun pins s σ H Q I h => ?_⟩
  refine wpAny_Call_method (T := "dict") (id := "dict.values") hbase rfl hline F.plainAttrs_dict F.slot_dict_values F.type_dict_values (thn (he.run pins s σ H _ I h) fun u s1 ⟨x, H1, I1, rx, d, kvs, ex, hd, q⟩ => ?_)
  subst ex
  obtain rfl : u = Value.ref d := rx
  obtain ⟨_, hs, vs, rel, dof⟩ := dk_of I1.hok hd
  refine ⟨dof.typeIs, dof.mapOf.noDict, ?_⟩
  show wpAny _ _ (callWith pos (.builtin "dict.values") [.ref d] [] []) _ X.xe s1
  exact method_meetsIn F.slot_dict_values F.entry_dict_values rfl (PySem.evalArgs_none ⟨rfl, dof.typeIs, F.args_dict_values_1 _, _, meets_dict_values (mixKind X.prog X.w) d hs, ⟨vs, dof⟩, ⟨.ref s1.heap.objs.size, _, I1.laid (t' := s1.toks) (fun b o q => Heap.get?_push_of_some _ q) (Nat.le_refl _) (valsO_ok (Heap.get?_push_size _ rfl)), rfl, q _ (I1.hok.fresh (Nat.le_refl _))⟩⟩)
theorem kv_snd : ∀ {kvs : List (Key × V)} {vs : List (Key × Value)}, KV kvs vs → Vals (kvs.map (·.2)) (vs.map (·.2)) := by
  intro kvs vs r
  unfold KV at r
  induction r with
  | nil => exact .nil
  | cons h t ih => exact .cons h.2 ih
theorem call_listVals (hc : X.calm = true) : CallR X (.type "list") (fun xs H Q => ∃ v a kvs, xs = [V.ref v] ∧ H v = some (valsO v a) ∧ H a = some (.dK kvs) ∧ ∀ p, H p = none → Q (.ref p) (upd H p (.lst (kvs.map (·.2))))) := by
  intro pins s σ H xs us Q I r h
  obtain ⟨v, a, kvs, rfl, hv, ha, q⟩ := h
  obtain ⟨u, rfl, rx⟩ := r.one
  cases rx
  obtain ⟨sz, hs, vs, rel, dof⟩ := dk_of I.hok ha
  obtain ⟨ep, dat⟩ := dof.dictAt
  have hvo := (show ObjOk X.prog X.w H s.heap v (valsO v a) from I.hok v _ hv).1
  have ll : kvs.length = vs.length := KV.length rel
  refine PySem.W.kdl_call (PySem.W.kdl_values (knd := mixKind X.prog X.w)) (I.ok.hd hc) ⟨⟨_, hvo, rfl, rfl⟩, dat⟩ (by omega) fun h' tk acc' c' kp e it => ?_
  have ea : acc'.toList = vs.map (·.2) := PySem.W.kdl_vals_eq acc'.toList (by rw [Array.length_toList]; exact it.1) fun j x hx => it.2 j x (by rw [← Array.getElem?_toList]; exact hx)
  refine ⟨.ref s.heap.objs.size, _, I.laid (t' := tk) kp (Nat.le_refl _) (show ObjOk X.prog X.w _ h' s.heap.objs.size (.lst (kvs.map (·.2))) from ⟨by rw [List.length_map]; omega, acc'.toList, c', by rw [ea]; exact kv_snd rel, by rw [Array.toArray_toList]; exact e⟩), rfl, q _ (I.hok.fresh (Nat.le_refl _))⟩
end
end Fb

/-! Part S12: sets of texts: how one is laid, added to, and told in order. -/
namespace Fb
open PySem PySem.Spec PyProof.Rows L2
abbrev tK (P : Program) (w : World) := PySem.strKind P w
def txtOf (e : Int × Value) : Str := match e.2 with
  | .str x _ => x
  | _ => ""
def TxtE (P : Program) (w : World) (e : Int × Value) : Prop := ∃ x t, e.2 = Value.str x t ∧ e.1 = (tK P w).hash x
/-- entries and a table that hold the texts L -/
structure TTab (P : Program) (w : World) (es : Array (Int × Value)) (t : SetTable) (L : List Str) : Prop where
  all : ∀ e ∈ es.toList, TxtE P w e
  perm : L.Perm (es.toList.map txtOf)
  once : L.Nodup
  room : es.size < scanBound
  fits : t.fits es.size = true
  ris : Ris t.place.toList
  led : w.params.followText "set-order" = true ∨ t.led = true
def TSet (P : Program) (w : World) (h : Heap) (a : Addr) (L : List Str) : Prop := ∃ o es ep t, h.get? a = some o ∧ o.ExactSet ∧ o.data = .set es ep t ∧ TTab P w es t L
section
variable {P : Program} {w : World} {A : Around} {E : Value → Shared → Prop} {s : Shared} {a : Addr} {L : List Str}
theorem TxtE.is {e : Int × Value} (h : TxtE P w e) (x : Str) : (tK P w).is x e.2 = true ↔ txtOf e = x := by
  obtain ⟨y, t, h1, _⟩ := h
  unfold txtOf
  rw [h1]
  show Value.isStrOf x (.str y t) = true ↔ y = x
  simp [Value.isStrOf]
theorem TTab.elems {es : Array (Int × Value)} {t : SetTable} (T : TTab P w es t L) : ElemsOf (tK P w) es.toList := fun e he => by
  obtain ⟨x, tk, h1, h2⟩ := T.all e he
  exact ⟨⟨x, by rw [h1]; show Value.isStrOf x (.str x tk) = true; simp [Value.isStrOf], h2⟩, by rw [h1]; rfl⟩
theorem TTab.mem {es : Array (Int × Value)} {t : SetTable} (T : TTab P w es t L) (x : Str) : x ∈ L ↔ ∃ e ∈ es.toList, (tK P w).is x e.2 = true := by
  rw [T.perm.mem_iff, List.mem_map]
  exact ⟨fun ⟨e, he, q⟩ => ⟨e, he, ((T.all e he).is x).2 q⟩, fun ⟨e, he, q⟩ => ⟨e, he, ((T.all e he).is x).1 q⟩⟩
theorem TTab.len {es : Array (Int × Value)} {t : SetTable} (T : TTab P w es t L) : L.length = es.size := by rw [T.perm.length_eq, List.length_map, Array.length_toList]
/-- storing what was laid -/
theorem tset_store {g : Bool → Sem Unit} (hg : ∀ (b : Bool) (s₁ : Shared) (Q' : Unit → Shared → Prop), Q' () s₁ → wpAny (model P w) A (g b) Q' E s₁) {o : Obj} {es es1 : Array (Int × Value)} {ep : Nat} {t t1 : SetTable} {L1 : List Str} (ho : s.heap.get? a = some o) (hex : o.ExactSet) (hd : o.data = .set es ep t) (T : TTab P w es1 t1 L1)
    {dummy : Bool} {R : Option Bool → Shared → Prop} (hR : ∀ h', Heap.SameBut a s.heap h' → TSet P w h' a L1 → R (some true) { s with heap := h' }) :
    wpAny (model P w) A (do
        storeSet a es1 t1
        if (!dummy && t1.tooFull) = true then do
            g (relayAll t1 es1 (SetTable.grown es1.size)).2.2
            storeSet a (relayAll t1 es1 (SetTable.grown es1.size)).1 (relayAll t1 es1 (SetTable.grown es1.size)).2.1
            pure (some true)
          else pure (some true)) R E s := by
  have one := store_at (es' := es1) (t' := t1) ho hd
  have sb := Heap.SameBut.update s.heap a (Obj.putSet es1 t1)
  refine wpAny_bind (wpAny_storeSet_of ho hd ?_ (fits_of_scanBound T.room))
  by_cases full : (!dummy && t1.tooFull) = true
  · rw [if_pos full]
    have T2 : TTab P w (relayAll t1 es1 (SetTable.grown es1.size)).1 (relayAll t1 es1 (SetTable.grown es1.size)).2.1 L1 := by
      have pm := relayAll_perm t1 es1 (SetTable.grown es1.size)
      have sz : (relayAll t1 es1 (SetTable.grown es1.size)).1.size = es1.size := by rw [← Array.length_toList, pm.length_eq, Array.length_toList]
      exact ⟨fun e he => T.all e (pm.mem_iff.mp he), T.perm.trans (pm.map txtOf).symm, T.once, by rw [sz]; exact T.room, relayAll_fits t1 es1 (SetTable.grown es1.size), relayAll_ris t1 es1 (SetTable.grown es1.size), T.led.imp id fun z => by rw [relayAll_led]; exact z⟩
    refine wpAny_bind (hg _ _ _ (wpAny_bind (wpAny_storeSet_of one rfl ?_ (fits_of_scanBound T2.room))))
    exact wpAny_pure (hR _ (sb.trans (Heap.SameBut.update _ a _)) ⟨_, _, _, _, store_at one rfl, hex, rfl, T2⟩)
  · rw [if_neg full]
    exact wpAny_pure (hR _ sb ⟨_, es1, _, t1, one, hex, rfl, T⟩)
/-- one more -/
def plusT (L : List Str) (x : Str) : List Str := if x ∈ L then L else x :: L
theorem tset_hashed {x : Str} {tk : Tok} {Q : Bool → Shared → Prop} (R : TSet P w s.heap a L) (few : L.length + 1 < scanBound) (hQ : ∀ b h', Heap.SameBut a s.heap h' → TSet P w h' a (plusT L x) → Q b { s with heap := h' }) :
    wpAny (model P w) A (setAddHashed a (.str x tk) ((tK P w).hash x)) Q E s := by
  obtain ⟨o, es, ep, t, ho, hex, hd, T⟩ := R
  have key : (tK P w).is x (.str x tk) = true := by show Value.isStrOf x (.str x tk) = true; simp [Value.isStrOf]
  have sc : (Value.str x tk).scannable = true := rfl
  unfold setAddHashed setAddHashedIn
  refine wpAny_holding (wpAny_bind (wpAny_setState_of ho hd T.fits ?_))
  dsimp only
  rw [byScan_of sc T.room T.elems, if_pos rfl]
  unfold setAddByScan
  refine wpAny_bind (wpAny_bind (wpAny_rule (wpAny_bind (wpAny_setScan_of key ho hd T.fits T.elems ?_))))
  cases at_ : List.findIdx? (fun e => (tK P w).is x e.2) es.toList with
  | some j =>
    obtain ⟨hj, pj, _⟩ := List.findIdx?_eq_some_iff_getElem.mp at_
    have mem : x ∈ L := (T.mem x).2 ⟨_, List.getElem_mem hj, pj⟩
    have q := hQ false s.heap (Heap.SameBut.refl a s.heap) (by unfold plusT; rw [if_pos mem]; exact ⟨o, es, ep, t, ho, hex, hd, T⟩)
    exact wpAny_pure (wpAny_pure q)
  | none =>
    have new : x ∉ L := fun z => by
      obtain ⟨e, he, q⟩ := (T.mem x).1 z
      have c := List.findIdx?_eq_none_iff.mp at_ e he
      rw [q] at c
      cases c
    have pm := layNew_perm t es ((tK P w).hash x) (.str x tk)
    have lf := layNew_fits t es ((tK P w).hash x) (.str x tk)
    have lr := layNew_ris t es ((tK P w).hash x) (.str x tk) T.ris
    have ll := layNew_led t es ((tK P w).hash x) (.str x tk)
    dsimp only
    generalize layNew t es ((tK P w).hash x) (.str x tk) = Z at pm lf lr ll ⊢
    obtain ⟨es1, t1, dummy, gave⟩ := Z
    dsimp only at pm lf lr ll ⊢
    rw [Array.toList_push] at pm
    have pc : es1.toList.Perm (((tK P w).hash x, Value.str x tk) :: es.toList) := pm.trans (List.perm_append_singleton _ _)
    have sz : es1.size = L.length + 1 := by rw [← Array.length_toList, pc.length_eq, List.length_cons, Array.length_toList, T.len]
    have T1 : ∀ t2 : SetTable, t2.fits es1.size = true → Ris t2.place.toList → t2.led = t1.led → TTab P w es1 t2 (plusT L x) := fun t2 f2 r2 l2 => by
      unfold plusT
      rw [if_neg new]
      refine ⟨fun e he => ?_, ?_, List.nodup_cons.mpr ⟨new, T.once⟩, by rw [sz]; exact few, f2, r2, T.led.imp id fun z => by rw [l2, ll]; exact z⟩
      · rcases List.mem_cons.mp (pc.mem_iff.mp he) with rfl | h
        · exact ⟨x, tk, rfl, rfl⟩
        · exact T.all e h
      · exact (List.Perm.cons x T.perm).trans (pc.map txtOf).symm
    have gone : ∀ (b : Bool) (s₁ : Shared) (Q' : Unit → Shared → Prop), Q' () s₁ → wpAny (model P w) A (match b with | true => rule "set.scan.the-table-gave-way" | false => pure ()) Q' E s₁ :=
      fun b s₁ Q' q => by cases b <;> first | exact wpAny_pure q | exact wpAny_rule q
    refine wpAny_bind (gone _ _ _ ?_)
    split
    · refine wpAny_bind ?_
      rw [hashByValue_scannable 8 sc]
      refine wpAny_pure ?_
      refine tset_store ?_ ho hex hd (T1 _ ?_ ?_ ?_) fun h' sb r => ?_
      · intro b s₁ Q' q
        cases b <;> first | exact wpAny_pure q | exact wpAny_rule q
      · first | (split <;> first | exact lf | exact SetTable.fits_plain_off lf) | exact lf
      · first | (split <;> exact lr) | exact lr
      · first | (split <;> rfl) | rfl
      · exact wpAny_pure (hQ true h' sb r)
    · refine wpAny_bind (wpAny_pure ?_)
      rw [if_pos rfl]
      refine tset_store ?_ ho hex hd (T1 _ lf lr rfl) fun h' sb r => ?_
      · intro b s₁ Q' q
        cases b <;> first | exact wpAny_pure q | exact wpAny_rule q
      · exact wpAny_pure (hQ true h' sb r)
theorem TSet.typeIs (R : TSet P w s.heap a L) : s.TypeIs (.ref a) "set" := by
  obtain ⟨o, _, _, _, ho, hex, _⟩ := R
  exact ⟨o, ho, hex.1⟩
/-- set.add -/
theorem tset_add {x : Str} {tk : Tok} {Q : Value → Shared → Prop} (R : TSet P w s.heap a L) (few : L.length + 1 < scanBound) (hQ : ∀ h', Heap.SameBut a s.heap h' → TSet P w h' a (plusT L x) → Q .none { s with heap := h', toks := s.toks + 1 }) :
    wpAny (model P w) A (call (.builtin "set.add") [.ref a, .str x tk]) Q E s := by
  refine wpAny_call_entry F.slot_set_add R.typeIs F.entry_set_add ?_ (F.args_set_add_2 _ _)
  unfold Builtin.«set.add» Builtin.Frozenset.oneOther
  simp only [List.isEmpty_nil, bind_assoc]
  unfold Builtin.Frozenset.addrOf setAdd
  refine wpAny_bind (wpAny_pure ?_)
  try dsimp only
  refine wpAny_bind (wpAny_pure ?_)
  try dsimp only
  refine wpAny_bind (wpAny_holding (wpAny_bind ((tK P w).pyHash (by show Value.isStrOf x (.str x tk) = true; simp [Value.isStrOf]) ?_)))
  refine tset_hashed (s := { s with toks := s.toks + 1 }) R few fun b h' sb r => ?_
  show wpAny _ _ (ret Value.none) _ _ _
  exact wpAny_pure ⟨_, rfl, hQ h' sb r⟩
theorem tset_new {h : Heap} : TSet P w (h.push { cls := .type "set", dict := none, data := .set #[] 0 (.fresh 0 0 (!w.params.followText "set-order")) }) h.objs.size [] :=
  ⟨_, #[], 0, _, Heap.get?_push_size _ rfl, ⟨rfl, rfl, rfl⟩, rfl, (fun e he => by simp at he), .nil, List.nodup_nil, by decide, by rfl, List.Pairwise.nil, by
    show _ ∨ (!w.params.followText "set-order") = true
    cases w.params.followText "set-order"
    · exact .inr rfl
    · exact .inl rfl⟩
/-- sorted -/
theorem txts_of : ∀ l : List Value, (∀ v ∈ l, ∃ k tk, v = Value.str k tk) → StrsAre l (l.map strOf)
  | [], _ => .nil
  | v :: l, h => by
    obtain ⟨k, tk, rfl⟩ := h v List.mem_cons_self
    exact .cons k tk (txts_of l fun u hu => h u (List.mem_cons_of_mem _ hu))
theorem tset_sorted {Q : Value → Shared → Prop} (R : TSet P w s.heap a L) (hh : A.handled = none) (few : L.length < 64)
    (hQ : ∀ s' p (out : Array Value) (c : Nat) (zs : List Str), (∀ b o, s.heap.get? b = some o → s'.heap.get? b = some o) → s'.gens = s.gens → s'.os = s.os → s.heap.objs.size ≤ p → s'.heap.get? p = some (seqObj "list" out c) → StrsAre out.toList zs → sortedS zs = true → zs.Perm L → Q (.ref p) s') :
    wpAny (model P w) A (call (.builtin "sorted") [.ref a]) Q E s := by
  obtain ⟨o, es, ep, t, ho, hex, hd, T⟩ := R
  refine Calls.call_function_entry kind_sorted plain_sorted entry_sorted (args_sorted1 _) ?_
  unfold Builtin.«sorted»
  refine wpAny_bind (m := checkCount "sorted" 1 1 _) (wpAny_pure ?_)
  refine wpAny_bind (collect_set (A := A.in1) hh ⟨o, ho, hex.1, hd⟩ T.fits T.room T.ris T.led fun s1 vs k1 hz g1 o1 pm => ?_)
  have vl : vs.length = L.length := by rw [pm.length_eq, List.length_map, Array.length_toList]; exact T.len.symm
  have sa : StrsAre vs (vs.map strOf) := txts_of vs fun v hv => by
    obtain ⟨e, he, q⟩ := List.mem_map.mp (pm.mem_iff.mp hv)
    obtain ⟨k, tk, h1, _⟩ := T.all e he
    exact ⟨k, tk, by rw [← q]; exact h1⟩
  have pk : (vs.map strOf).Perm L := by
    have q := pm.map strOf
    rw [List.map_map] at q
    refine q.trans (List.Perm.trans (List.Perm.of_eq (List.map_congr_left fun e he => ?_)) T.perm.symm)
    obtain ⟨k, tk, h1, _⟩ := T.all e he
    show strOf e.2 = txtOf e
    unfold txtOf
    rw [h1]
    rfl
  refine wpAny_bind (wpAny_newList ?_ (by rw [vl, sizeLine_eq]; omega))
  have hoL : (s1.heap.push (seqObj "list" vs.toArray 0)).get? s1.heap.objs.size = some (seqObj "list" vs.toArray 0) := Heap.get?_push_size _ rfl
  refine wpAny_bind (wpAny_holding (wpAny_call_entry slot_list_sort ⟨_, hoL, rfl⟩ entry_list_sort (list_sort_treeK strKind_oneLt hoL sa.keysOf (fun v₁ v₂ rest e => keyKind_strs (by rw [← e]; exact sa)) (by rw [vl]; exact few) fun st hp hs => ⟨_, rfl, ?_⟩) (args_list_sort _)))
  obtain ⟨zs, h1, h2, h3⟩ := sorted_out_str sa hp hs
  obtain ⟨c, hc⟩ := sortedHeap_at (vs := vs) (out := (arrOf st).map (·.2)) hoL
  refine wpAny_pure ⟨_, rfl, hQ _ s1.heap.objs.size _ c zs (fun b u e => ?_) g1 o1 hz hc h1 h3 (h2.trans pk)⟩
  have q := k1 b u e
  have lt := Heap.lt_size q
  show (sortedHeap (s1.heap.push (seqObj "list" vs.toArray 0)) s1.heap.objs.size vs ((arrOf st).map (·.2))).get? b = some u
  rw [sortedHeap_old (Nat.ne_of_lt lt) (by rw [size_push']; exact Nat.lt_succ_of_lt lt)]
  exact Heap.get?_push_of_some _ q
end
end Fb

/-! Part S13: {text for one in some if .. for two in others if ..}, and sorted of a set of texts. -/
namespace Fb
open PySem PySem.Spec PyProof.Rows L2
/-- the set's object by itself -/
def TSetO (P : Program) (w : World) (a : Addr) (L : List Str) : HO := .ext fun h => TSet P w h a L
theorem TSet.ok {P : Program} {w : World} {H : Hp} {h : Heap} {a : Addr} {L : List Str} (R : TSet P w h a L) : ObjOk P w H h a (TSetO P w a L) := by
  have ⟨o, _, _, _, ho, _⟩ := R
  refine ⟨R, ⟨o, ho⟩, fun h1 h2 p k => ?_⟩
  obtain ⟨o', es, ep, t, ho', r⟩ := (show TSet P w h1 a L from p)
  exact ⟨o', es, ep, t, k o' ho', r⟩
section
variable {X : Cx} {pins : List (Addr × Obj)} {σ : L2.St} {H : Hp} {s : Shared}
theorem tset_of (I : Inv X pins σ H s) {a : Addr} {L : List Str} (h : H a = some (TSetO X.prog X.w a L)) : TSet X.prog X.w s.heap a L := (I.hok a _ h).1
theorem tset_put {A : Around} {E : Value → Shared → Prop} {D : Addr} {L : List Str} {x : Str} {tk : Tok} {Q : Value → Shared → Prop} (I : Inv X pins σ H s) (hD : H D = some (TSetO X.prog X.w D L)) (few : L.length + 1 < scanBound)
    (q : ∀ s', Inv X pins σ (upd H D (TSetO X.prog X.w D (plusT L x))) s' → Q .none s') : wpAny (model X.prog X.w) A (call (.builtin "set.add") [.ref D, .str x tk]) Q E s := by
  refine tset_add (tset_of I hD) few fun h' sb R => q _ ?_
  have there : ∃ u, h'.get? D = some u := by
    obtain ⟨o, _, _, _, ho, _⟩ := R
    exact ⟨o, ho⟩
  exact I.write (e := D) (t' := s.toks + 1) (by rw [hD]; trivial) (.inl rfl) (fun c u hc hu => (sb.2 c hc).trans hu) there R.ok
/-- sorted(texts), texts a set -/
def rSortT2 (P : Program) (w : World) : List V → Hp → VK → Prop := fun vs H Q => ∃ (a : Addr) (L : List Str), vs = [V.ref a] ∧ H a = some (TSetO P w a L) ∧ L.length < 64 ∧ ∀ (zs : List Str) (p : Addr), zs.Perm L → sortedS zs = true → H p = none → Q (.ref p) (upd H p (.lst (zs.map V.str)))
theorem cr_sortT (hc : X.calm = true) : CallR X (.builtin "sorted") (rSortT2 X.prog X.w) := by
  intro pins s σ H vs us Q I r h
  obtain ⟨a, L, rfl, ha, few, q⟩ := h
  rw [Vals.ref1 r]
  refine tset_sorted (tset_of I ha) (I.ok.hd hc) few fun s' p out c zs keep gs os new at_ txt srt pm => ?_
  have nil : H p = none := I.hok.fresh new
  have len : (zs.map V.str).length ≤ sizeLine := by rw [List.length_map, pm.length_eq, sizeLine_eq]; omega
  have J : Inv X pins σ (upd H p (.lst (zs.map V.str))) { s with heap := s'.heap, gens := s'.gens, drawn := s'.drawn, toks := s'.toks } :=
    I.call (ch := []) (Un.laid keep new nil) (I.hok.laid keep new ⟨len, out.toList, c, vals_of_strs txt, at_⟩) (by rw [gs]; exact I.bare) (fun _ z => nomatch z)
  have same : s' = { s with heap := s'.heap, gens := s'.gens, drawn := s'.drawn, toks := s'.toks } := by
    cases s'
    cases s
    cases os
    rfl
  rw [same]
  exact ⟨.ref p, _, J, rfl, q zs p pm srt nil⟩
end
end Fb

/-! Part S14: set comprehensions of texts with two clauses. -/
namespace Fb
open PySem PySem.Spec PyProof.Rows L2
abbrev twoC (elt t0 i0 t1 i1 : Expr) (f0 f1 : List Expr) (scope : Scope) (pos : Pos) : Expr := .SetComp elt [⟨t0, i0, f0, 0⟩, ⟨t1, i1, f1, 0⟩] scope pos
section
variable {P : Program} {w : World} {A : Around} {R : Result → Shared → Prop} {s : Shared} {elt t0 i0 t1 i1 : Expr} {f0 f1 : List Expr} {scope : Scope} {pos : Pos} {it acc : Value} {env : Env}
/-- a turn of the outer clause -/
theorem outer_turn : compTurn (twoC elt t0 i0 t1 i1 f0 f1 scope pos) 0 it acc env = (do
      standAt i0.pos
      match ← pyNext it with
      | none => pure (.done .next)
      | some v =>
        letOwnedTupleGo t0 it v
        assign t0 env v
        let mut ok := true
        for c in f0 do
          if ok then ok ← isTrue c env (eval c env)
        if ok then
          let x ← eval i1 env
          standAt i1.pos
          let x ← foldedSetIterable i1 env x
          let _ ← runOwn (.compStart (twoC elt t0 i0 t1 i1 f0 f1 scope pos) 1 (← holding [x] (pyIter x)) acc env) env
        again (.compLoop (twoC elt t0 i0 t1 i1 f0 f1 scope pos) 0 it acc env)) := by rfl
/-- a turn of the inner one -/
theorem inner_turn : compTurn (twoC elt t0 i0 t1 i1 f0 f1 scope pos) 1 it acc env = (do
      standAt i1.pos
      match ← pyNext it with
      | none => pure (.done .next)
      | some v =>
        letOwnedTupleGo t1 it v
        assign t1 env v
        let mut ok := true
        for c in f1 do
          if ok then ok ← isTrue c env (eval c env)
        if ok then
          (do let v ← eval elt env; standAt elt.pos; let _ ← call (.builtin "set.add") [acc, v])
        again (.compLoop (twoC elt t0 i0 t1 i1 f0 f1 scope pos) 1 it acc env)) := by rfl
abbrev tests (l : List Expr) (env : Env) : Sem Bool := forIn l true fun c r => if r = true then do let ok ← isTrue c env (eval c env); pure (ForInStep.yield ok) else pure (ForInStep.yield r)
abbrev onErr (P : Program) (w : World) (A : Around) (env : Env) (R : Result → Shared → Prop) : Value → Shared → Prop := notedBy (model P w) A env fun e s' => R (.error e) s'
/-- the outer loop -/
theorem outer_loop (hs : ∀ x, foldedSetIterable i1 env x = pure x) (I : Nat → Shared → Prop)
    (turn : ∀ n s, I n s → wpAny (model P w) A (pyNext it) (fun r s₁ => match r with
      | none => R (.ok .next) s₁
      | some v => wpAny (model P w) A (letOwnedTupleGo t0 it v) (fun _ s₂ => wpAny (model P w) A (assign t0 env v) (fun _ s₃ => wpAny (model P w) A (tests f0 env) (fun ok s₄ =>
          if ok = true then wpAny (model P w) A (eval i1 env) (fun x s₅ => wpAny (model P w) A (pyIter x) (fun j s₆ =>
            codeAny (model P w) A (.compStart (twoC elt t0 i0 t1 i1 f0 f1 scope pos) 1 j acc env) (fun r s' => match r with
              | .ok _ => ∃ m, m < n ∧ I m s'
              | .error _ => False) s₆) (onErr P w A env R) s₅) (onErr P w A env R) s₄
          else ∃ m, m < n ∧ I m s₄) (onErr P w A env R) s₃) (onErr P w A env R) s₂) (onErr P w A env R) s₁) (onErr P w A env R) s)
    (n : Nat) (h : I n s) : codeAny (model P w) A (.compLoop (twoC elt t0 i0 t1 i1 f0 f1 scope pos) 0 it acc env) R s := by
  refine codeAny_loop rfl I (fun n s hI => ?_) n h
  show wpAny _ A ((compTurn (twoC elt t0 i0 t1 i1 f0 f1 scope pos) 0 it acc env).onRaise (fun x => do noteFrame x env; theTreesLotGoes x)) _ _ s
  rw [outer_turn]
  refine wpAny_noted (wpAny_bind (wpAny_standAt (wpAny_bind (wpAny_mono (turn n s hI) (fun r s₁ h1 => ?_) fun _ _ z => z))))
  match r with
  | none => exact wpAny_pure h1
  | some v =>
    refine wpAny_bind (wpAny_mono h1 (fun _ s₂ h2 => wpAny_bind (wpAny_mono h2 (fun _ s₃ h3 => wpAny_bind (wpAny_mono h3 (fun ok s₄ h4 => ?_) fun _ _ z => z)) fun _ _ z => z)) fun _ _ z => z)
    match ok with
    | false => exact wpAny_pure ⟨rfl, h4⟩
    | true =>
      refine wpAny_bind (wpAny_mono h4 (fun x s₅ h5 => wpAny_bind (wpAny_standAt (wpAny_bind (wpAny_of_eq (hs x) (wpAny_bind (wpAny_holding (wpAny_mono h5 (fun j s₆ h6 => ?_) fun _ _ z => z))))))) fun _ _ z => z)
      refine wpAny_bind (wpAny_runOwn ?_)
      rw [Around.mark_none]
      refine codeAny_mono h6 fun r s' hr => ?_
      match r with
      | .error e => exact hr.elim
      | .ok f =>
        first
          | exact wpAny_pure ⟨rfl, hr⟩
          | exact wpAny_bind (wpAny_pure (wpAny_pure ⟨rfl, hr⟩))
/-- the inner loop -/
theorem inner_loop (I : Nat → Shared → Prop)
    (turn : ∀ n s, I n s → wpAny (model P w) A (pyNext it) (fun r s₁ => match r with
      | none => R (.ok .next) s₁
      | some v => wpAny (model P w) A (letOwnedTupleGo t1 it v) (fun _ s₂ => wpAny (model P w) A (assign t1 env v) (fun _ s₃ => wpAny (model P w) A (tests f1 env) (fun ok s₄ =>
          if ok = true then wpAny (model P w) A (eval elt env) (fun x s₅ => wpAny (model P w) A (call (.builtin "set.add") [acc, x]) (fun _ s₆ => ∃ m, m < n ∧ I m s₆) (onErr P w A env R) s₅) (onErr P w A env R) s₄
          else ∃ m, m < n ∧ I m s₄) (onErr P w A env R) s₃) (onErr P w A env R) s₂) (onErr P w A env R) s₁) (onErr P w A env R) s)
    (n : Nat) (h : I n s) : codeAny (model P w) A (.compLoop (twoC elt t0 i0 t1 i1 f0 f1 scope pos) 1 it acc env) R s := by
  refine codeAny_loop rfl I (fun n s hI => ?_) n h
  show wpAny _ A ((compTurn (twoC elt t0 i0 t1 i1 f0 f1 scope pos) 1 it acc env).onRaise (fun x => do noteFrame x env; theTreesLotGoes x)) _ _ s
  rw [inner_turn]
  refine wpAny_noted (wpAny_bind (wpAny_standAt (wpAny_bind (wpAny_mono (turn n s hI) (fun r s₁ h1 => ?_) fun _ _ z => z))))
  match r with
  | none => exact wpAny_pure h1
  | some v =>
    refine wpAny_bind (wpAny_mono h1 (fun _ s₂ h2 => wpAny_bind (wpAny_mono h2 (fun _ s₃ h3 => wpAny_bind (wpAny_mono h3 (fun ok s₄ h4 => ?_) fun _ _ z => z)) fun _ _ z => z)) fun _ _ z => z)
    match ok with
    | false => exact wpAny_pure ⟨rfl, h4⟩
    | true => exact wpAny_bind (wpAny_bind (wpAny_mono h4 (fun x s₅ h5 => wpAny_bind (wpAny_standAt (wpAny_bind (wpAny_mono h5 (fun _ s₆ h6 => wpAny_pure (wpAny_pure ⟨rfl, h6⟩)) fun _ _ z => z)))) fun _ _ z => z))
/-- the inner clause's start -/
theorem inner_start (h0 : codeAny (model P w) A (.compLoop (twoC elt t0 i0 t1 i1 f0 f1 scope pos) 1 it acc env) R s)
    (h : wpAny (model P w) A (pyIter it) (fun j s' => codeAny (model P w) A (.compLoop (twoC elt t0 i0 t1 i1 f0 f1 scope pos) 1 j acc env) R s') (onErr P w A env R) s) :
    codeAny (model P w) A (.compStart (twoC elt t0 i0 t1 i1 f0 f1 scope pos) 1 it acc env) R s := by
  refine codeAny_of_tree ?_
  show wpAny _ _ ((compStart (twoC elt t0 i0 t1 i1 f0 f1 scope pos) 1 it acc env).onRaise (fun x => do noteFrame x env; standAt theWindowsPlace)) _ _ s
  refine wpAny_notedAt ?_
  unfold compStart
  show wpAny _ _ (ask >>= _) _ _ s
  refine wpAny_bind (wpAny_askSetting (wpAny_ite ?_))
  split
  · first
      | exact wpAny_bind (wpAny_pure (wpAny_pure (And.intro rfl h0)))
      | exact wpAny_pure (And.intro rfl h0)
  · refine wpAny_bind (wpAny_rule ?_)
    first
      | exact wpAny_bind (wpAny_standAt (wpAny_bind (wpAny_mono h (fun j s' h' => wpAny_pure (And.intro rfl h')) fun _ _ z => z)))
      | (show wpAny _ _ (standAt i1.pos >>= _) _ _ s; exact wpAny_bind (wpAny_standAt (wpAny_bind (wpAny_mono h (fun j s' h' => wpAny_pure (And.intro rfl h')) fun _ _ z => z))))
end
section
variable {X : Cx}
/-- {elt for tg in .. if .. for tg1 in .. if ..}, elt a text -/
def tScT2 (P : Program) (w : World) (wi : TI) (g : TG) (tt : TT) (wi1 : TI) (g1 : TG) (tt1 : TT) (te : TE) (vs vs1 : List Nat) : TE := fun σ H Q => wi σ H fun J H1 => ∀ D, H1 D = none → ∃ W : Nat → Nat → Hp → Prop, (∃ m, W 0 m (upd H1 D (TSetO P w D []))) ∧ ∀ i m H, W i m H →
  (J.stop i H ∧ Q (.ref D) H) ∨ (J.go i H ∧ ∃ Nx : Hp → Prop, (∀ H', Nx H' → ∃ m', m' < m ∧ W (i + 1) m' H') ∧ ∀ x H', J.yld i H x H' → g x (wipe σ vs) H' fun σ2 H2 => wipe σ2 vs = wipe σ vs ∧ tt σ2 H2 fun b H3 =>
    if b = true then wi1 σ2 H3 fun J1 H4 => ∃ W1 : Nat → Nat → Hp → Prop, (∃ m, W1 0 m H4) ∧ ∀ j k H, W1 j k H →
      (J1.stop j H ∧ Nx H) ∨ (J1.go j H ∧ ∃ Nx1 : Hp → Prop, (∀ H', Nx1 H' → ∃ k', k' < k ∧ W1 (j + 1) k' H') ∧ ∀ x H', J1.yld j H x H' → g1 x (wipe σ2 vs1) H' fun σ3 H5 => wipe σ3 vs1 = wipe σ2 vs1 ∧ tt1 σ3 H5 fun b H6 =>
        if b = true then te σ3 H6 fun y H7 => ∃ (x : Str) (L : List Str), y = .str x ∧ H7 D = some (TSetO P w D L) ∧ L.length + 1 < scanBound ∧ Nx1 (upd H7 D (TSetO P w D (plusT L x))) else Nx1 H6)
    else Nx H3)
theorem pe_scT2 {elt tg iter tg1 iter1 : Expr} {ifs ifs1 : List Expr} {scope : Scope} {own : List (Str × Nat)} {vs1 : List Nat} {pos : Pos} {wi wi1 : TI} {g g1 : TG} {tt tt1 : TT} {te : TE} (hc : X.calm = true) (hN : X.N.Nodup) (hi : PI X tg iter wi) (ok : BlkOk X.N X.env.scope scope own) (hv : ∀ i ∈ vs1, i ∈ own.map (·.2))
    (hg : ∀ (s : Shared) (H : Hp) (C : Addr) (cl : List (Str × Addr)) (fp : List Addr), PG (X.blk s H scope (compEnvC scope cl C X.env) fp) tg g) (ht : ∀ (s : Shared) (H : Hp) (C : Addr) (cl : List (Str × Addr)) (fp : List Addr), PTs (X.blk s H scope (compEnvC scope cl C X.env) fp) ifs tt)
    (hi1 : ∀ (s : Shared) (H : Hp) (C : Addr) (cl : List (Str × Addr)) (fp : List Addr), PI (X.blk s H scope (compEnvC scope cl C X.env) fp) tg1 iter1 wi1)
    (hg1 : ∀ (s : Shared) (H : Hp) (C : Addr) (cl : List (Str × Addr)) (fp : List Addr), PG (X.blk s H scope (compEnvC scope cl C X.env) fp) tg1 g1) (ht1 : ∀ (s : Shared) (H : Hp) (C : Addr) (cl : List (Str × Addr)) (fp : List Addr), PTs (X.blk s H scope (compEnvC scope cl C X.env) fp) ifs1 tt1)
    (he : ∀ (s : Shared) (H : Hp) (C : Addr) (cl : List (Str × Addr)) (fp : List Addr), PE (X.blk s H scope (compEnvC scope cl C X.env) fp) elt te) (hs : ∀ x, foldedSetIterable iter X.env x = pure x := by intro _; rfl) (hs1 : ∀ env x, foldedSetIterable iter1 env x = pure x := by intro _ _; rfl) :
    PE X (twoC elt tg iter tg1 iter1 ifs ifs1 scope pos) (tScT2 X.prog X.w wi g tt wi1 g1 tt1 te (own.map (·.2)) vs1) := by
  refine ⟨fun pins s σ H Q I h => ?_⟩
  rw [PpSet.eval_SetComp]
  have free : ∀ y ∈ scope.names, y.2 = .free → ∃ c, X.env.cells.lookup y.1 = some c := fun y hy e => (ok.free y hy e).elim (fun k => I.ok.has _ (.inl k)) fun k => I.ok.has _ (.inr k)
  refine wpAny_comprehension_free (use := none) rfl hs (closure_ok free) ok.kind (fun y hy e => by rw [ok.uniq y hy, e]) (thn (hi.run pins s σ H _ I h) fun xv s1 hx => thn hx fun itv s2 h2 => ?_)
  obtain ⟨it, fp, tn, J, H2, rfl, I2, T, st2, f2, q⟩ := h2
  refine PpSet.newSet_ok (newEnv_comp ?_)
  have nD : H2 s2.heap.objs.size = none := I2.hok.fresh (Nat.le_refl _)
  obtain ⟨W, ⟨m0, w0⟩, turn⟩ := q _ nD
  have I3 : Inv X pins σ (upd H2 s2.heap.objs.size (TSetO X.prog X.w s2.heap.objs.size [])) { s2 with heap := s2.heap.push { cls := .type "set", dict := none, data := .set #[] 0 (.fresh 0 0 (!X.w.params.followText "set-order")) } } :=
    I2.laid (t' := s2.toks) (fun b o e => Heap.get?_push_of_some _ e) (Nat.le_refl _) tset_new.ok
  have small : ∀ b ∈ fp, b < s2.heap.objs.size := fun b hb => (T.obj _ _ st2 b hb).elim fun o e => Heap.lt_size e.1
  have size3 : (s2.heap.push { cls := .type "set", dict := none, data := .set #[] 0 (.fresh 0 0 (!X.w.params.followText "set-order")) }).objs.size = s2.heap.objs.size + 1 := Heap.size_push ..
  have st3 : tn 0 (s2.heap.push { cls := .type "set", dict := none, data := .set #[] 0 (.fresh 0 0 (!X.w.params.followText "set-order")) }) := T.keep _ _ _ st2 fun b _ o e => Heap.get?_push_of_some _ e
  generalize hD : s2.heap.objs.size = D at *
  generalize hs3 : ({ s2 with heap := s2.heap.push { cls := .type "set", dict := none, data := .set #[] 0 (.fresh 0 0 (!X.w.params.followText "set-order")) } } : Shared) = s3 at *
  have h3 : s3.heap = s2.heap.push { cls := .type "set", dict := none, data := .set #[] 0 (.fresh 0 0 (!X.w.params.followText "set-order")) } := by rw [← hs3]
  have f3 : ∀ b ∈ fp, FpOk X pins (upd H2 D (TSetO X.prog X.w D [])) b ∧ b < s3.heap.objs.size := fun b hb => by
    have l := small b hb
    refine ⟨⟨?_, (f2 b hb).2⟩, by rw [h3, size3]; exact Nat.lt_succ_of_lt l⟩
    rw [upd_ne (Nat.ne_of_lt l)]
    exact (f2 b hb).1
  have I4 := block_start I3 ok hN f3
  have n0 : ∀ b ∈ fp, (upd H2 D (TSetO X.prog X.w D [])) b = none := fun b hb => (f3 b hb).1.1
  generalize hH3 : upd H2 D (TSetO X.prog X.w D []) = H3 at *
  have pg := hg s3 H3 s3.heap.objs.size (cellsFrom (s3.heap.objs.size + 1) scope.names (cloFrom X.env.cells scope.names [])) fp
  have pt := ht s3 H3 s3.heap.objs.size (cellsFrom (s3.heap.objs.size + 1) scope.names (cloFrom X.env.cells scope.names [])) fp
  have pe := he s3 H3 s3.heap.objs.size (cellsFrom (s3.heap.objs.size + 1) scope.names (cloFrom X.env.cells scope.names [])) fp
  have qi := hi1 s3 H3 s3.heap.objs.size (cellsFrom (s3.heap.objs.size + 1) scope.names (cloFrom X.env.cells scope.names [])) fp
  have qg := hg1 s3 H3 s3.heap.objs.size (cellsFrom (s3.heap.objs.size + 1) scope.names (cloFrom X.env.cells scope.names [])) fp
  have qt := ht1 s3 H3 s3.heap.objs.size (cellsFrom (s3.heap.objs.size + 1) scope.names (cloFrom X.env.cells scope.names [])) fp
  have top : (compEnvC scope (cellsFrom (s3.heap.objs.size + 1) scope.names (cloFrom X.env.cells scope.names [])) s3.heap.objs.size X.env).locals = s3.heap.objs.size := rfl
  show codeAny _ _ (.compStart (twoC elt tg iter tg1 iter1 ifs ifs1 scope pos) 0 (.ref it) (.ref D) (compEnvC scope (cellsFrom (s3.heap.objs.size + 1) scope.names (cloFrom X.env.cells scope.names [])) s3.heap.objs.size X.env)) _ { s3 with heap := pushCells (s3.heap.push { cls := .type "dict", data := .dict #[] }) scope.names }
  generalize compEnvC scope (cellsFrom (s3.heap.objs.size + 1) scope.names (cloFrom X.env.cells scope.names [])) s3.heap.objs.size X.env = ce at I4 pg pt pe qi qg qt top ⊢
  have st4 : tn 0 ({ s3 with heap := pushCells (s3.heap.push { cls := .type "dict", data := .dict #[] }) scope.names } : Shared).heap := T.keep _ _ _ (h3 ▸ st3) fun b _ o e => pushCells_keeps _ _ _ _ (Heap.get?_push_of_some _ e)
  generalize ({ s3 with heap := pushCells (s3.heap.push { cls := .type "dict", data := .dict #[] }) scope.names } : Shared) = s4 at I4 st4 ⊢
  have fps : ∀ {σ' : L2.St} {H' : Hp} {s' : Shared}, Inv (X.blk s3 H3 scope ce fp) [] σ' H' s' → (∀ b ∈ fp, H' b = none) → ∀ b ∈ fp, FpOk (X.blk s3 H3 scope ce fp) [] H' b := fun {σ' H' s'} I' hn b hb =>
    ⟨hn b hb, (I'.ok.exf b hb).1, I'.ok.exfs b hb, .inl hb, fun x c e => (I'.ok.exf b hb).2 x c e, fun p hp => absurd (show p ∈ ([] : List (Addr × Obj)) ++ [] from hp) (by simp)⟩
  have loop : codeAny (model X.prog X.w) X.A (.compLoop (twoC elt tg iter tg1 iter1 ifs ifs1 scope pos) 0 (.ref it) (.ref D) ce) (compPost (model X.prog X.w) X.A X.xe none (EP X pins σ Q) (.ref D) s3.heap.objs.size) s4 := by
    refine outer_loop (hs1 ce) (fun n s' => ∃ i H', Inv (X.blk s3 H3 scope ce fp) [] (wipe σ (own.map (·.2))) H' s' ∧ tn i s'.heap ∧ (∀ b ∈ fp, H' b = none) ∧ W i n H') ?_ m0 ⟨0, H3, I4, st4, n0, w0⟩
    rintro n s5 ⟨i, H5, I5, st5, n5, w5⟩
    rcases turn i n H5 w5 with ⟨stop, fin⟩ | ⟨go, Nx, next, step⟩
    · refine thnF (T.done (X.blk s3 H3 scope ce fp) rfl rfl rfl hc i [] s5 _ H5 (fun _ _ => False) I5 (fps I5 n5) st5 stop) fun r s6 ⟨hr, I6⟩ => ?_
      subst hr
      have I7 : Inv X pins σ H5 s6 := I3.call' (ch := fp) I6.os I6.base I6.hok I6.bare fun b hb => let f := (f3 b hb).1; ⟨f.2.2.2.1, f.2.1, f.2.2.2.2.1, f.2.2.2.2.2⟩
      have nC : H5 s3.heap.objs.size = none := by
        have := (show H5 ce.locals = none from I6.free)
        rwa [top] at this
      obtain ⟨m, hn, _⟩ := I6.loc
      have hn : s6.heap.Ns s3.heap.objs.size m := by
        have := (show s6.heap.Ns ce.locals m from hn)
        rwa [top] at this
      obtain ⟨g0, e1, e2, e3, e4, e5⟩ := I3.fpOk (Nat.le_refl _) nC
      exact ⟨m, hn, fun h'' sb => ⟨.ref D, H5, I7.turned (t' := s6.toks) (fun b o hb e => (sb.2 b hb).trans e) g0 e1 e3 e4 e5, rfl, fin⟩⟩
    · refine thnF (T.item (X.blk s3 H3 scope ce fp) rfl rfl rfl hc i [] s5 _ H5 (fun _ _ => False) I5 (fps I5 n5) st5 go) fun r s6 ⟨u, hr, h6⟩ => ?_
      subst hr
      refine thnF h6 fun _ s7 ⟨x, H7, I7, r7, y7, st7, n7⟩ => ?_
      refine thnF (pg.run _ s7 _ H7 x u _ (I7.pinned (fps I7 n7) (T.obj _ _ st7)) r7 (step x H7 y7)) fun _ s8 ⟨σ8, H8, I8, hw8, q8⟩ => ?_
      refine thnF (pt.run _ s8 σ8 H8 _ I8 q8) fun b s9 ⟨H9, I9, q9⟩ => ?_
      -- on with the outer clause, whatever the block's slots hold then
      have on : ∀ {σ9 : L2.St} {s' : Shared} {H' : Hp}, Inv (X.blk s3 H3 scope ce fp) ([] ++ pinsAt fp s7.heap) σ9 H' s' → (wipe σ (own.map (·.2))).length = σ9.length → (∀ (j : Nat) v, (wipe σ (own.map (·.2)))[j]? = some (some v) → σ9[j]? = some (some v)) → Nx H' →
          ∃ m, m < n ∧ ∃ i H', Inv (X.blk s3 H3 scope ce fp) [] (wipe σ (own.map (·.2))) H' s' ∧ tn i s'.heap ∧ (∀ b ∈ fp, H' b = none) ∧ W i m H' := fun {σ9 s' H'} I' ln kp nx => by
        obtain ⟨m', hm, w'⟩ := next H' nx
        have pin : ∀ b ∈ fp, ∀ o, s7.heap.get? b = some o → s'.heap.get? b = some o ∧ H' b = none := fun b hb o e =>
          let z := I'.pin (b, o) (List.mem_append_right _ (List.mem_append_right _ (mem_pinsAt hb e)))
          ⟨z.1, z.2.1⟩
        refine ⟨m', hm, i + 1, H', (I'.unpinned (pins := [])).weak ln kp, T.keep _ _ _ st7 fun b hb o e => (pin b hb o e).1, fun b hb => ?_, w'⟩
        obtain ⟨o, e, _⟩ := T.obj _ _ st7 b hb
        exact (pin b hb o e).2
      have ln8 : (wipe σ (own.map (·.2))).length = σ8.length := by rw [← hw8, wipe_length]
      have kp8 : ∀ (j : Nat) v, (wipe σ (own.map (·.2)))[j]? = some (some v) → σ8[j]? = some (some v) ∧ (wipe σ8 vs1)[j]? = some (some v) := fun j v e => by
        rw [← hw8] at e
        obtain ⟨e1, e2⟩ := wipe_some e
        exact ⟨e1, by rw [wipe_out fun z => e2 (hv j z)]; exact e1⟩
      match b with
      | false =>
        simp only [Bool.false_eq_true, if_false] at q9 ⊢
        exact on I9 ln8 (fun j v e => (kp8 j v e).1) q9
      | true =>
        simp only [if_true] at q9 ⊢
        refine thnF (qi.run _ s9 σ8 H9 _ I9 q9) fun xv s10 hx => thnF hx fun itv s11 h11 => ?_
        obtain ⟨jt, fq, tn1, J1, H11, rfl, I11, T1, st11, f11, W1, ⟨m1, w1⟩, turn1⟩ := h11
        have fqs : ∀ {H' : Hp}, (∀ b ∈ fq, H' b = none) → ∀ b ∈ fq, FpOk (X.blk s3 H3 scope ce fp) ([] ++ pinsAt fp s7.heap) H' b := fun hn b hb => ⟨hn b hb, (f11 b hb).2⟩
        have inner : codeAny (model X.prog X.w) X.A (.compLoop (twoC elt tg iter tg1 iter1 ifs ifs1 scope pos) 1 (.ref jt) (.ref D) ce)
            (fun r s' => match r with
              | .ok _ => ∃ m, m < n ∧ ∃ i H', Inv (X.blk s3 H3 scope ce fp) [] (wipe σ (own.map (·.2))) H' s' ∧ tn i s'.heap ∧ (∀ b ∈ fp, H' b = none) ∧ W i m H'
              | .error _ => False) s11 := by
          refine inner_loop (fun k s' => ∃ j H', Inv (X.blk s3 H3 scope ce fp) ([] ++ pinsAt fp s7.heap) (wipe σ8 vs1) H' s' ∧ tn1 j s'.heap ∧ (∀ b ∈ fq, H' b = none) ∧ W1 j k H') ?_ m1 ⟨0, H11, I11.weak (wipe_length _ _) (fun j v e => (wipe_some e).1), st11, fun b hb => (f11 b hb).1, w1⟩
          rintro k s12 ⟨j, H12, I12, st12, n12, w12⟩
          rcases turn1 j k H12 w12 with ⟨stop1, nx1⟩ | ⟨go1, Nx1, next1, step1⟩
          · refine thnF (T1.done (X.blk s3 H3 scope ce fp) rfl rfl rfl hc j _ s12 (wipe σ8 vs1) H12 (fun _ _ => False) I12 (fqs n12) st12 stop1) fun r s13 ⟨hr, I13⟩ => ?_
            subst hr
            exact on I13 (ln8.trans (wipe_length σ8 vs1).symm) (fun j v e => (kp8 j v e).2) nx1
          · refine thnF (T1.item (X.blk s3 H3 scope ce fp) rfl rfl rfl hc j _ s12 (wipe σ8 vs1) H12 (fun _ _ => False) I12 (fqs n12) st12 go1) fun r s13 ⟨u1, hr, h13⟩ => ?_
            subst hr
            refine thnF h13 fun _ s14 ⟨x1, H14, I14, r14, y14, st14, n14⟩ => ?_
            refine thnF (qg.run _ s14 (wipe σ8 vs1) H14 x1 u1 _ (I14.pinned (fqs n14) (T1.obj _ _ st14)) r14 (step1 x1 H14 y14)) fun _ s15 ⟨σ15, H15, I15, hw15, q15⟩ => ?_
            refine thnF (qt.run _ s15 σ15 H15 _ I15 q15) fun b1 s16 ⟨H16, I16, q16⟩ => ?_
            have on1 : ∀ {s' : Shared} {H' : Hp}, Inv (X.blk s3 H3 scope ce fp) (([] ++ pinsAt fp s7.heap) ++ pinsAt fq s14.heap) σ15 H' s' → Nx1 H' → ∃ m, m < k ∧ ∃ j H', Inv (X.blk s3 H3 scope ce fp) ([] ++ pinsAt fp s7.heap) (wipe σ8 vs1) H' s' ∧ tn1 j s'.heap ∧ (∀ b ∈ fq, H' b = none) ∧ W1 j m H' := fun {s' H'} I' nx => by
              obtain ⟨m', hm, w'⟩ := next1 H' nx
              have pin : ∀ b ∈ fq, ∀ o, s14.heap.get? b = some o → s'.heap.get? b = some o ∧ H' b = none := fun b hb o e =>
                let z := I'.pin (b, o) (List.mem_append_right _ (List.mem_append_right _ (mem_pinsAt hb e)))
                ⟨z.1, z.2.1⟩
              refine ⟨m', hm, j + 1, H', I'.unpinned.weak (by rw [← hw15, wipe_length]) (fun j v e => by rw [← hw15] at e; exact (wipe_some e).1), T1.keep _ _ _ st14 fun b hb o e => (pin b hb o e).1, fun b hb => ?_, w'⟩
              obtain ⟨o, e, _⟩ := T1.obj _ _ st14 b hb
              exact (pin b hb o e).2
            match b1 with
            | false =>
              simp only [Bool.false_eq_true, if_false] at q16 ⊢
              exact on1 I16 q16
            | true =>
              simp only [if_true] at q16 ⊢
              refine thnF (pe.run _ s16 σ15 H16 _ I16 q16) fun z s17 ⟨yv, H17, I17, r17, t17, L, ey, eD, few, nx⟩ => ?_
              subst ey
              obtain ⟨tk, rfl⟩ := r17
              exact tset_put (X := X.blk s3 H3 scope ce fp) I17 eD few fun s18 I18 => on1 I18 nx
        exact inner_start inner (T1.self X.A 0 _ _ _ st11 inner)
  exact PpSet.codeAny_compStart_set loop (T.self X.A 0 _ _ _ st4 loop)
end
end Fb

/-! Part S15: set(xs) of a list of texts, and how many a set of texts has. -/
namespace Fb
open PySem PySem.Spec PyProof.Rows L2
theorem TSet.mv {P : Program} {w : World} {h h' : Heap} {a : Addr} {L : List Str} (R : TSet P w h a L) (k : ∀ o, h.get? a = some o → h'.get? a = some o) : TSet P w h' a L := by
  obtain ⟨o, es, ep, t, ho, r⟩ := R
  exact ⟨o, es, ep, t, k o ho, r⟩
theorem plus_mem {L : List Str} {x z : Str} : z ∈ plusT L x ↔ z = x ∨ z ∈ L := by
  unfold plusT
  by_cases h : x ∈ L
  · rw [if_pos h]
    exact ⟨.inr, fun c => c.elim (fun e => by rw [e]; exact h) id⟩
  · rw [if_neg h, List.mem_cons]
theorem plus_len {L : List Str} {x : Str} : (plusT L x).length ≤ L.length + 1 := by
  unfold plusT
  split
  · exact Nat.le_succ _
  · exact Nat.le_refl _
section
variable {P : Program} {w : World} {A : Around} {E : Value → Shared → Prop} {s : Shared}
/-- the loop that puts in what a walk gives -/
theorem tset_fill {I : Addr} {fp wr : List Addr} {G : Array GenState → Array GenState → Prop} {n : Nat} {Pv : Nat → Value → Prop} {St : Nat → Shared → Prop} {R : Result → Shared → Prop} (W : WalksS P w A.in1 I fp wr G n Pv St) (S : Addr) (out : S ∉ fp) (zs : List Str) (hn : n = zs.length)
    (few : zs.length + 1 < scanBound) (val : ∀ i v, Pv i v → ∃ x t, zs[i]? = some x ∧ v = .str x t) (res : ∀ s' L, Moved (S :: wr) G s s' → TSet P w s'.heap S L → L.length ≤ n → (∀ x, x ∈ L ↔ x ∈ zs) → R (.ok (.ret .none)) s') :
    ∀ (k i : Nat) (s1 : Shared), n - i = k → i ≤ n → St i s1 → (i = 0 → s1 = s) → (0 < i → Moved (S :: wr) G s s1) → (∃ L, TSet P w s1.heap S L ∧ L.length ≤ i ∧ ∀ x, x ∈ L ↔ x ∈ zs.take i) → codeAny (model P w) A (.builtin "set.update.loop" ⟨[.ref S, .ref I], []⟩) R s1 := by
  have far : S ∉ wr := fun h => out (W.sub _ h)
  have more : ∀ b ∈ wr, b ∈ S :: wr := fun b hb => List.mem_cons_of_mem _ hb
  have join : ∀ {i : Nat} {s1 s2 : Shared}, (i = 0 → s1 = s) → (0 < i → Moved (S :: wr) G s s1) → Moved (S :: wr) G s1 s2 → Moved (S :: wr) G s s2 := fun {i s1 s2} h0 h1 m => by
    by_cases e : i = 0
    · rw [h0 e] at m
      exact m
    · exact Moved.trans W.gtrans (h1 (by omega)) m
  intro k
  induction k with
  | zero =>
    intro i s1 hk hi st h0 h1 ⟨L, T, ln, mm⟩
    obtain rfl : i = n := by omega
    refine codeAny_builtin F.entry_set_update_loop ?_
    rw [Around.under_plainId F.plain_set_update_loop _]
    show wpAny _ A.in1 (pyNext (.ref I) >>= _) _ _ s1
    refine wpAny_bind (W.done s1 _ _ st fun s2 m => ?_)
    show wpAny _ A.in1 (ret Value.none) _ _ s2
    rw [List.take_of_length_le (by omega)] at mm
    exact wpAny_pure (res s2 L (join h0 h1 (m.mono more)) (T.mv fun o e => m.heap S o far e) ln mm)
  | succ k ih =>
    intro i s1 hk hi st h0 h1 ⟨L, T, ln, mm⟩
    have lt : i < n := by omega
    refine codeAny_builtin F.entry_set_update_loop ?_
    rw [Around.under_plainId F.plain_set_update_loop _]
    show wpAny _ A.in1 (pyNext (.ref I) >>= _) _ _ s1
    refine wpAny_bind (W.item i s1 _ _ lt st fun v s2 pv st2 m => ?_)
    obtain ⟨x, t, hx, rfl⟩ := val i v pv
    have T2 : TSet P w s2.heap S L := T.mv fun o e => m.heap S o far e
    show wpAny _ A.in1 (holding [Value.str x t] (setAdd S (.str x t)) >>= _) _ _ s2
    refine wpAny_bind (wpAny_holding ?_)
    unfold setAdd
    refine wpAny_holding (wpAny_bind ((tK P w).pyHash (by show Value.isStrOf x (.str x t) = true; simp [Value.isStrOf]) ?_))
    refine tset_hashed (s := { s2 with toks := s2.toks + 1 }) T2 (by omega) fun b h' sb T3 => ?_
    refine wpAny_pure ⟨plainId_quiet F.plain_set_update_loop _, ih (i + 1) _ (by omega) lt (W.frame _ s2 _ _ st2 (Nat.le_succ _) fun b hb o e => ?_) (fun z => absurd z (Nat.succ_ne_zero i)) (fun _ => ?_) ⟨_, T3, Nat.le_trans plus_len (Nat.succ_le_succ ln), fun z => ?_⟩⟩
    · rw [sb.2 b fun h => out (by rw [← h]; exact hb)]
      exact e
    · refine join h0 h1 ((m.mono more).then_heap (Nat.le_succ _) fun b o hb e => ?_)
      rw [sb.2 b fun h => hb (by rw [h]; exact List.mem_cons_self)]
      exact e
    · rw [plus_mem, mm z, List.take_add_one, hx, List.mem_append]
      show _ ↔ _ ∨ z ∈ [x]
      rw [List.mem_singleton]
      exact Or.comm
/-- a set as set() makes it -/
abbrev bareSet (w : World) : Obj := { cls := .type "set", dict := none, data := .set #[] 0 (.fresh 0 0 (!w.params.followText "set-order")) }
theorem tset_bare {h : Heap} {a : Addr} (e : h.get? a = some (bareSet w)) : TSet P w h a [] :=
  ⟨_, #[], 0, _, e, ⟨rfl, rfl, rfl⟩, rfl, (fun e he => by simp at he), .nil, List.nodup_nil, by decide, by rfl, List.Pairwise.nil, by
    show _ ∨ (!w.params.followText "set-order") = true
    cases w.params.followText "set-order"
    · exact .inr rfl
    · exact .inl rfl⟩
theorem strs_at : ∀ {us : List Value} {zs : List Str} {i : Nat} {v : Value}, StrsAre us zs → us[i]? = some v → ∃ x t, zs[i]? = some x ∧ v = .str x t
  | _, _, _, _, .nil, h => by simp at h
  | _, _, 0, _, .cons x t r, h => by
    cases h
    exact ⟨x, t, rfl, rfl⟩
  | _, _, i + 1, _, .cons x t r, h => by
    obtain ⟨y, u, h1, h2⟩ := strs_at (i := i) r (by simpa using h)
    exact ⟨y, u, by simpa using h1, h2⟩
theorem strs_len : ∀ {us : List Value} {zs : List Str}, StrsAre us zs → us.length = zs.length
  | _, _, .nil => rfl
  | _, _, .cons x t r => by rw [List.length_cons, List.length_cons, strs_len r]
set_option maxRecDepth 100000 in
set_option maxHeartbeats 3200000 in
theorem tset_of_list {l : Addr} {items : Array Value} (zs : List Str) {Q : Value → Shared → Prop} (hh : A.handled = none) (hl : s.heap.IsList l items) (txt : StrsAre items.toList zs) (few : zs.length + 1 < scanBound)
    (fin : ∀ (h' : Heap) (tk : Nat) (L : List Str), TSet P w h' s.heap.objs.size L → L.length ≤ zs.length → (∀ x, x ∈ L ↔ x ∈ zs) → (∀ b o, s.heap.get? b = some o → h'.get? b = some o) → Q (.ref s.heap.objs.size) { s with heap := h', toks := tk }) :
    wpAny (model P w) A (call (.type "set") [.ref l]) Q E s := by
  have len : items.size = zs.length := by
    have := strs_len txt
    rwa [Array.length_toList] at this
  have lS : l < s.heap.objs.size := by
    obtain ⟨_, e, _⟩ := hl
    exact Heap.lt_size e
  obtain ⟨c, tl, hmro⟩ := F.called_set.mro
  have hmade := F.called_set.made
  have hsub := F.called_set.sub
  refine wpAny_call (codeAny_of_tree ?_)
  show wpAny _ _ (callAny (.type "set") _) _ _ _
  refine wpAny_pure ⟨Code.quiet_builtin _ (by decide +kernel), codeAny_builtin F.entry_type_call ?_⟩
  rw [Around.under_plain (weight_type_call_type "set" [.ref l] []) rfl]
  have h1 := F.called_set.notType
  have h2 := F.called_set.canCreate
  have hct := F.typeCall_set_1 (.ref l)
  repeat (any_goals (first | assumption | wp_step))
  refine codeAny_mono (code_set_led1 (.ref l) (E := E) (Q₁ := fun obj s₁ => obj = .ref s.heap.objs.size ∧ s₁ = { s with heap := s.heap.push (bareSet w) }) ⟨rfl, rfl⟩) fun r s₁ hr => ?_
  match r with
  | .error e => exact hr
  | .ok (.ret obj) =>
    obtain ⟨rfl, rfl⟩ := hr
    have new : (s.heap.push (bareSet w)).get? s.heap.objs.size = some (bareSet w) := Heap.get?_push_size _ rfl
    have hT : Shared.TypeIs { s with heap := s.heap.push (bareSet w) } (.ref s.heap.objs.size) "set" := ⟨_, new, rfl⟩
    have hli := F.called_set.init.lookup
    have hbi := F.called_set.init.bind (.ref s.heap.objs.size)
    repeat (any_goals (first | assumption | wp_step))
    refine codeAny_mono (codeAny_call_builtin (R := wants (fun r s₂ => r = .none ∧ ∃ h' tk L, s₂ = { s with heap := h', toks := tk } ∧ TSet P w h' s.heap.objs.size L ∧ L.length ≤ zs.length ∧ (∀ x, x ∈ L ↔ x ∈ zs) ∧ (∀ b o, s.heap.get? b = some o → h'.get? b = some o)) E) F.called_set.init.plain F.entry_set_init (check_set_init_1 hT ?_)) fun r₂ s₂ hr₂ => ?_
    · obtain ⟨ol, hol, hcl, nl, hdl⟩ := hl
      obtain ⟨ocls, odict, odata, oslots⟩ := ol
      simp only at hcl hdl
      subst hcl
      subst hdl
      have old : (s.heap.push (bareSet w)).get? l = some { cls := .type "list", dict := odict, data := .seq items nl, slots := oslots } := Heap.get?_push_of_some _ hol
      have isl : (s.heap.push (bareSet w)).IsList l items := ⟨_, old, rfl, nl, rfl⟩
      have hsls := F.sub_list_set
      have hslf := F.sub_list_frozenset
      have hne : (Value.type "list" == Value.type "dict") = false := by decide
      unfold Builtin.«set.__init__» noKeywords Builtin.Frozenset.updateFrom
      generalize hPI : pyIter = PI
      wp_walk
      subst hPI
      refine wpAny_pyIter_list isl (wpAny_bind (wpAny_runValue ?_))
      have sz : (s.heap.push (bareSet w)).objs.size = s.heap.objs.size + 1 := Heap.size_push ..
      have hd3 : A.in1.in1.in1.handled = none := by simp [hh]
      have apart : l ≠ (s.heap.push (bareSet w)).objs.size := by rw [sz]; exact Nat.ne_of_lt (Nat.lt_succ_of_lt lS)
      have out : s.heap.objs.size ∉ [(s.heap.push (bareSet w)).objs.size, l] := by
        rw [sz]
        simp only [List.mem_cons, List.not_mem_nil, or_false, not_or]
        exact ⟨Nat.ne_of_lt (Nat.lt_succ_self _), Nat.ne_of_gt lS⟩
      refine tset_fill (s := { s with heap := (s.heap.push (bareSet w)).push { cls := .type "list_iterator", data := .fields #[.ref l, .int 0 0] } }) ((Walks.list hd3 _ l apart items).toS) s.heap.objs.size out zs len few
        (fun i v hv => strs_at txt (by rw [Array.getElem?_toList]; exact hv)) (fun s' L m T ln mm => ?_) (items.size - 0) 0 _ (by omega) (Nat.zero_le _) ⟨⟨_, Heap.get?_push_size _ rfl, rfl, rfl⟩, isl.push _⟩ (fun _ => rfl) (fun z => absurd z (Nat.lt_irrefl 0)) ⟨[], tset_bare (Heap.get?_push_of_some _ new), Nat.le_refl 0, fun x => by simp⟩
      obtain ⟨h', g2, d', tk', os'⟩ := s'
      have eg : g2 = s.gens := m.gens
      have ed : d' = s.drawn := m.drawn
      have eo : os' = s.os := m.os
      subst eg
      subst ed
      subst eo
      show wpAny _ _ _ _ _ _
      refine wpAny_pure ?_
      show wpAny _ _ (ret Value.none) _ _ _
      refine wpAny_pure ⟨rfl, h', tk', L, rfl, T, by omega, mm, fun b o e => ?_⟩
      have lt : b < s.heap.objs.size := Heap.lt_size e
      refine m.heap b o ?_ (Heap.get?_push_of_some _ (Heap.get?_push_of_some _ e))
      simp only [List.mem_cons, List.not_mem_nil, or_false, not_or]
      exact ⟨Nat.ne_of_lt lt, by rw [sz]; exact Nat.ne_of_lt (Nat.lt_succ_of_lt lt)⟩
    · match r₂ with
      | .error e => exact hr₂
      | .ok (.ret r) =>
        obtain ⟨rfl, h', tk, L, rfl, T, ln, mm, kp⟩ := hr₂
        repeat (any_goals (first | assumption | wp_step))
        exact fin _ _ _ T ln mm kp
      | .ok .next => exact hr₂.elim
      | .ok .brk => exact hr₂.elim
      | .ok .cont => exact hr₂.elim
  | .ok .next => exact hr.elim
  | .ok .brk => exact hr.elim
  | .ok .cont => exact hr.elim
end
section
variable {X : Cx}
/-- set(xs), xs a list of texts -/
def rSetT (K : PySem.W.Frag) (P : Program) (w : World) : List V → Hp → VK → Prop := fun vs H Q => ∃ (a : Addr) (zs : List Str), vs = [V.ref a] ∧ SqL K H a (zs.map V.str) ∧ zs.length + 1 < scanBound ∧ ∀ (p : Addr) (L : List Str), H p = none → L.length ≤ zs.length → L.Nodup → (∀ x, x ∈ L ↔ x ∈ zs) → Q (.ref p) (upd H p (TSetO P w p L))
theorem call_setT (hc : X.calm = true) : CallR X (.type "set") (rSetT X.K X.prog X.w) := by
  intro pins s σ H vs us Q I r h
  obtain ⟨a, zs, rfl, hs, few, q⟩ := h
  obtain ⟨its, rv, hl, _⟩ := I.list hs
  rw [Vals.ref1 r]
  refine tset_of_list zs (I.ok.hd hc) hl.isList (by simpa using rv.strs) few fun h' tk L T ln mm kp => ?_
  have nd : L.Nodup := by
    obtain ⟨_, _, _, _, _, _, _, tab⟩ := T
    exact tab.once
  exact ⟨.ref s.heap.objs.size, _, I.laid (t' := tk) kp (Nat.le_refl _) T.ok, rfl, q _ L (I.hok.fresh (Nat.le_refl _)) ln nd mm⟩
/-- len of one -/
theorem call_lenT : CallR X (.builtin "len") (fun xs H Q => ∃ (a : Addr) (L : List Str), xs = [.ref a] ∧ H a = some (TSetO X.prog X.w a L) ∧ L.length < 64 ∧ Q (.int L.length) H) := by
  intro pins s σ H xs us Q I r h
  obtain ⟨a, L, rfl, ha, few, q⟩ := h
  obtain ⟨u, rfl, ru⟩ := vals1 r
  cases ru
  obtain ⟨o, es, ep, t, ho, hex, hd, T⟩ := tset_of I ha
  have ln := T.len
  refine call_len_set ho hex hd T.fits (by omega) ?_
  refine ⟨.int L.length, H, I.kept (t' := s.toks + 1 + 1) fun _ _ e => e, ⟨s.toks + 1, ?_⟩, q⟩
  rw [ln]
end
end Fb

namespace Fb
open PySem PySem.Spec PyProof.Rows L2
def topS (i : Nat) : Stmt := PySem.Challenge.pw_farbetween_k52_worths_of_sayings.main.body.getD i (.Pass ⟨0, 0, 0, 0⟩)
abbrev s_m_NoMachine_init : Stmt := inClass (topS 3) 0
theorem sc_m_NoMachine_init : FnScope ["self", "part"] ["self", "part"] (defScope s_m_NoMachine_init) := ⟨rfl, rfl, rfl, by decide +kernel, rfl, by decide +kernel, by decide +kernel⟩
abbrev s_p_is_whole : Stmt := topS 9
theorem sc_p_is_whole : FnScope ["thing"] ["thing"] (defScope s_p_is_whole) := ⟨rfl, rfl, rfl, by decide +kernel, rfl, by decide +kernel, by decide +kernel⟩
abbrev s_p_is_name : Stmt := topS 10
theorem sc_p_is_name : FnScope ["thing", "letter"] ["thing"] (defScope s_p_is_name) := ⟨rfl, rfl, rfl, by decide +kernel, rfl, by decide +kernel, by decide +kernel⟩
abbrev s_p_written : Stmt := topS 13
theorem sc_p_written : FnScope ["number", "piece", "pieces", "rest"] ["number"] (defScope s_p_written) := ⟨rfl, rfl, rfl, by decide +kernel, rfl, by decide +kernel, by decide +kernel⟩
abbrev s_m_Share_init : Stmt := inClass (topS 15) 0
theorem sc_m_Share_init : FnScope ["self", "top", "bottom", "common"] ["self", "top", "bottom"] (defScope s_m_Share_init) := ⟨rfl, rfl, rfl, by decide +kernel, rfl, by decide +kernel, by decide +kernel⟩
abbrev s_m_Share_eq : Stmt := inClass (topS 15) 1
theorem sc_m_Share_eq : FnScope ["self", "other"] ["self", "other"] (defScope s_m_Share_eq) := ⟨rfl, rfl, rfl, by decide +kernel, rfl, by decide +kernel, by decide +kernel⟩
abbrev s_m_Share_str : Stmt := inClass (topS 15) 2
theorem sc_m_Share_str : FnScope ["self"] ["self"] (defScope s_m_Share_str) := ⟨rfl, rfl, rfl, by decide +kernel, rfl, by decide +kernel, by decide +kernel⟩
abbrev s_p_common_part : Stmt := topS 16
theorem sc_p_common_part : FnScope ["one", "other"] ["one", "other"] (defScope s_p_common_part) := ⟨rfl, rfl, rfl, by decide +kernel, rfl, by decide +kernel, by decide +kernel⟩
abbrev s_p_common_multiple : Stmt := topS 17
theorem sc_p_common_multiple : FnScope ["one", "other"] ["one", "other"] (defScope s_p_common_multiple) := ⟨rfl, rfl, rfl, by decide +kernel, rfl, by decide +kernel, by decide +kernel⟩
abbrev s_p_lowest_share : Stmt := topS 18
theorem sc_p_lowest_share : FnScope ["top", "bottom", "share"] ["top", "bottom"] (defScope s_p_lowest_share) := ⟨rfl, rfl, rfl, by decide +kernel, rfl, by decide +kernel, by decide +kernel⟩
abbrev s_p_grain_of : Stmt := topS 20
theorem sc_p_grain_of : FnScope ["doors", "grain", "door", "weights"] ["doors"] (defScope s_p_grain_of) := ⟨rfl, rfl, rfl, by decide +kernel, rfl, by decide +kernel, by decide +kernel⟩
abbrev s_p_even_level : Stmt := topS 21
theorem sc_p_even_level : FnScope ["number", "many", "room"] ["number", "many"] (defScope s_p_even_level) := ⟨rfl, rfl, rfl, by decide +kernel, rfl, by decide +kernel, by decide +kernel⟩
abbrev s_p_stepped : Stmt := topS 22
theorem sc_p_stepped : FnScope ["doors", "sign", "level", "tops", "bottom", "whole", "door"] ["doors", "sign", "level"] (defScope s_p_stepped) := ⟨rfl, rfl, rfl, by decide +kernel, rfl, by decide +kernel, by decide +kernel⟩
abbrev s_p_awaited : Stmt := topS 23
theorem sc_p_awaited : FnScope ["weights", "tops", "whole", "weight", "top"] ["weights", "tops", "whole"] (defScope s_p_awaited) := ⟨rfl, rfl, rfl, by decide +kernel, rfl, by decide +kernel, by decide +kernel⟩
abbrev s_p_lowered : Stmt := topS 24
theorem sc_p_lowered : FnScope ["level", "grain", "tops", "bottom", "common", "top"] ["level", "grain"] (defScope s_p_lowered) := ⟨rfl, rfl, rfl, by decide +kernel, rfl, by decide +kernel, by decide +kernel⟩
abbrev s_p_shared_part : Stmt := topS 25
theorem sc_p_shared_part : FnScope ["tops", "common", "top"] ["tops", "common"] (defScope s_p_shared_part) := ⟨rfl, rfl, rfl, by decide +kernel, rfl, by decide +kernel, by decide +kernel⟩
abbrev s_p_same_bottoms : Stmt := topS 26
theorem sc_p_same_bottoms : FnScope ["one", "other", "ours", "near", "theirs", "far", "bottom", "top"] ["one", "other"] (defScope s_p_same_bottoms) := ⟨rfl, rfl, rfl, by decide +kernel, rfl, by decide +kernel, by decide +kernel⟩
abbrev s_p_shares_at : Stmt := topS 27
theorem sc_p_shares_at : FnScope ["level", "grain", "tops", "bottom", "top"] ["level", "grain"] (defScope s_p_shares_at) := ⟨rfl, rfl, rfl, by decide +kernel, rfl, by decide +kernel, by decide +kernel⟩
abbrev s_p_share_by : Stmt := topS 28
theorem sc_p_share_by : FnScope ["top", "bottom", "grain", "tops", "lower"] ["top", "bottom", "grain"] (defScope s_p_share_by) := ⟨rfl, rfl, rfl, by decide +kernel, rfl, by decide +kernel, by decide +kernel⟩
abbrev s_p_is_such : Stmt := topS 31
theorem sc_p_is_such : FnScope ["thing", "kind", "at"] ["thing", "kind", "at"] (defScope s_p_is_such) := ⟨rfl, rfl, rfl, by decide +kernel, rfl, by decide +kernel, by decide +kernel⟩
abbrev s_p_is_row : Stmt := topS 32
theorem sc_p_is_row : FnScope ["thing", "at", "kinds", "each", "kind"] ["thing", "at"] (defScope s_p_is_row) := ⟨rfl, rfl, rfl, by decide +kernel, rfl, by decide +kernel, by decide +kernel⟩
abbrev s_p_check_book : Stmt := topS 33
theorem sc_p_check_book : FnScope ["thing", "at", "row"] ["thing"] (defScope s_p_check_book) := ⟨rfl, rfl, rfl, by decide +kernel, rfl, by decide +kernel, by decide +kernel⟩
abbrev s_p_book_grain : Stmt := topS 34
theorem sc_p_book_grain : FnScope ["book", "fade", "doors", "grain", "row"] ["book", "fade", "doors"] (defScope s_p_book_grain) := ⟨rfl, rfl, rfl, by decide +kernel, rfl, by decide +kernel, by decide +kernel⟩
abbrev s_p_level_of : Stmt := topS 35
theorem sc_p_level_of : FnScope ["row", "fade", "doors", "levels", "grain", "word", "level", "ours", "theirs", "bottom", "door", "one", "other"] ["row", "fade", "doors", "levels", "grain"] (defScope s_p_level_of) := ⟨rfl, rfl, rfl, by decide +kernel, rfl, by decide +kernel, by decide +kernel⟩
abbrev s_p_faded : Stmt := topS 36
theorem sc_p_faded : FnScope ["fade", "level", "tops", "bottom", "top"] ["fade", "level"] (defScope s_p_faded) := ⟨rfl, rfl, rfl, by decide +kernel, rfl, by decide +kernel, by decide +kernel⟩
abbrev s_p_inverse : Stmt := topS 37
theorem sc_p_inverse : FnScope ["level", "tops", "bottom", "top"] ["level"] (defScope s_p_inverse) := ⟨rfl, rfl, rfl, by decide +kernel, rfl, by decide +kernel, by decide +kernel⟩
abbrev s_p_lessened : Stmt := topS 38
theorem sc_p_lessened : FnScope ["level", "share", "tops", "lower", "bottom", "top"] ["level", "share"] (defScope s_p_lessened) := ⟨rfl, rfl, rfl, by decide +kernel, rfl, by decide +kernel, by decide +kernel⟩
abbrev s_p_check_fade : Stmt := topS 40
theorem sc_p_check_fade : FnScope ["thing"] ["thing"] (defScope s_p_check_fade) := ⟨rfl, rfl, rfl, by decide +kernel, rfl, by decide +kernel, by decide +kernel⟩
abbrev s_m_Machine_init : Stmt := inClass (topS 43) 0
theorem sc_m_Machine_init : FnScope ["self", "many", "steps", "room", "sign", "weights"] ["self", "many", "steps"] (defScope s_m_Machine_init) := ⟨rfl, rfl, rfl, by decide +kernel, rfl, by decide +kernel, by decide +kernel⟩
abbrev s_m_Machine_eq : Stmt := inClass (topS 43) 1
theorem sc_m_Machine_eq : FnScope ["self", "other"] ["self", "other"] (defScope s_m_Machine_eq) := ⟨rfl, rfl, rfl, by decide +kernel, rfl, by decide +kernel, by decide +kernel⟩
abbrev s_m_Machine_len : Stmt := inClass (topS 43) 2
theorem sc_m_Machine_len : FnScope ["self"] ["self"] (defScope s_m_Machine_len) := ⟨rfl, rfl, rfl, by decide +kernel, rfl, by decide +kernel, by decide +kernel⟩
abbrev s_p_is_room : Stmt := topS 44
theorem sc_p_is_room : FnScope ["thing", "many"] ["thing", "many"] (defScope s_p_is_room) := ⟨rfl, rfl, rfl, by decide +kernel, rfl, by decide +kernel, by decide +kernel⟩
abbrev s_p_are_weights : Stmt := topS 45
theorem sc_p_are_weights : FnScope ["thing", "many", "weight"] ["thing", "many"] (defScope s_p_are_weights) := ⟨rfl, rfl, rfl, by decide +kernel, rfl, by decide +kernel, by decide +kernel⟩
abbrev s_p_is_step : Stmt := topS 46
theorem sc_p_is_step : FnScope ["thing", "many", "room", "sign", "weights"] ["thing", "many"] (defScope s_p_is_step) := ⟨rfl, rfl, rfl, by decide +kernel, rfl, by decide +kernel, by decide +kernel⟩
abbrev s_p_are_steps : Stmt := topS 47
theorem sc_p_are_steps : FnScope ["thing", "many", "step", "room", "sign", "weights"] ["thing", "many"] (defScope s_p_are_steps) := ⟨rfl, rfl, rfl, by decide +kernel, rfl, by decide +kernel, by decide +kernel⟩
abbrev s_p_lowest : Stmt := topS 48
theorem sc_p_lowest : FnScope ["weights", "common", "weight"] ["weights"] (defScope s_p_lowest) := ⟨rfl, rfl, rfl, by decide +kernel, rfl, by decide +kernel, by decide +kernel⟩
abbrev s_p_doors_of : Stmt := topS 49
theorem sc_p_doors_of : FnScope ["machine", "doors", "room", "sign", "weights"] ["machine"] (defScope s_p_doors_of) := ⟨rfl, rfl, rfl, by decide +kernel, rfl, by decide +kernel, by decide +kernel⟩
abbrev s_p_worths : Stmt := topS 51
theorem sc_p_worths : FnScope ["book", "fade", "machine", "doors", "grain", "levels", "row", "level"] ["book", "fade", "machine"] (defScope s_p_worths) := ⟨rfl, rfl, rfl, by decide +kernel, rfl, by decide +kernel, by decide +kernel⟩
abbrev s_p_worth : Stmt := topS 52
theorem sc_p_worth : FnScope ["book", "fade", "machine"] ["book", "fade", "machine"] (defScope s_p_worth) := ⟨rfl, rfl, rfl, by decide +kernel, rfl, by decide +kernel, by decide +kernel⟩
abbrev s_l_well : Stmt := topS 54
theorem sc_l_well : FnScope ["_law_cell"] ["_law_cell"] (defScope s_l_well) := ⟨rfl, rfl, rfl, by decide +kernel, rfl, by decide +kernel, by decide +kernel⟩
abbrev s_l_draw : Stmt := topS 55
theorem sc_l_draw : FnScope ["_law_well_here", "_law_many", "_law_digit", "_law_prime", "_law_number"] ["_law_well_here", "_law_many"] (defScope s_l_draw) := ⟨rfl, rfl, rfl, by decide +kernel, rfl, by decide +kernel, by decide +kernel⟩
abbrev s_l_one : Stmt := topS 56
theorem sc_l_one : FnScope ["_law_well_here", "_law_some"] ["_law_well_here", "_law_some"] (defScope s_l_one) := ⟨rfl, rfl, rfl, by decide +kernel, rfl, by decide +kernel, by decide +kernel⟩
abbrev s_l_names : Stmt := topS 57
theorem sc_l_names : FnScope ["_law_well_here", "_law_many", "_law_some", "_law_at", "_law_found", "_law_last", "_law_word", "_law_k"] ["_law_well_here", "_law_many"] (defScope s_l_names) := ⟨rfl, rfl, rfl, by decide +kernel, rfl, by decide +kernel, by decide +kernel⟩
abbrev s_l_weights : Stmt := topS 58
theorem sc_l_weights : FnScope ["_law_well_here", "_law_many", "_law_way", "_law_found", "_law_k", "_law_at", "_law_room"] ["_law_well_here", "_law_many"] (defScope s_l_weights) := ⟨rfl, rfl, rfl, by decide +kernel, rfl, by decide +kernel, by decide +kernel⟩
abbrev s_l_machine : Stmt := topS 59
theorem sc_l_machine : FnScope ["_law_well_here", "_law_signs", "_law_most", "_law_many", "_law_way", "_law_bare", "_law_few", "_law_steps", "_law_room", "_law_at", "_law_sign"] ["_law_well_here", "_law_signs", "_law_most"] (defScope s_l_machine) := ⟨rfl, rfl, rfl, by decide +kernel, rfl, by decide +kernel, by decide +kernel⟩
abbrev s_l_fade : Stmt := topS 60
theorem sc_l_fade : FnScope ["_law_well_here", "_law_bottom"] ["_law_well_here"] (defScope s_l_fade) := ⟨rfl, rfl, rfl, by decide +kernel, rfl, by decide +kernel, by decide +kernel⟩
abbrev s_l_low : Stmt := topS 61
theorem sc_l_low : FnScope ["_law_top", "_law_bottom", "_law_one_here", "_law_other"] ["_law_top", "_law_bottom"] (defScope s_l_low) := ⟨rfl, rfl, rfl, by decide +kernel, rfl, by decide +kernel, by decide +kernel⟩
abbrev s_l_less : Stmt := topS 62
theorem sc_l_less : FnScope ["_law_one_here", "_law_other"] ["_law_one_here", "_law_other"] (defScope s_l_less) := ⟨rfl, rfl, rfl, by decide +kernel, rfl, by decide +kernel, by decide +kernel⟩
abbrev s_l_minus : Stmt := topS 63
theorem sc_l_minus : FnScope ["_law_one_here", "_law_other"] ["_law_one_here", "_law_other"] (defScope s_l_minus) := ⟨rfl, rfl, rfl, by decide +kernel, rfl, by decide +kernel, by decide +kernel⟩
abbrev s_l_share : Stmt := topS 64
theorem sc_l_share : FnScope ["_law_well_here", "_law_bottom"] ["_law_well_here"] (defScope s_l_share) := ⟨rfl, rfl, rfl, by decide +kernel, rfl, by decide +kernel, by decide +kernel⟩
abbrev s_l_row : Stmt := topS 65
theorem sc_l_row : FnScope ["_law_well_here", "_law_signs", "_law_at", "_law_sign", "_law_number", "_law_other", "_law_some"] ["_law_well_here", "_law_signs", "_law_at"] (defScope s_l_row) := ⟨rfl, rfl, rfl, by decide +kernel, rfl, by decide +kernel, by decide +kernel⟩
abbrev s_l_rows : Stmt := topS 66
theorem sc_l_rows : FnScope ["_law_well_here", "_law_signs", "_law_most", "_law_found", "_law_at"] ["_law_well_here", "_law_signs", "_law_most"] (defScope s_l_rows) := ⟨rfl, rfl, rfl, by decide +kernel, rfl, by decide +kernel, by decide +kernel⟩
abbrev s_l_book : Stmt := topS 67
theorem sc_l_book : FnScope ["_law_rows_here", "_law_found", "_law_row_here"] ["_law_rows_here"] (defScope s_l_book) := ⟨rfl, rfl, rfl, by decide +kernel, rfl, by decide +kernel, by decide +kernel⟩
abbrev s_l_onward : Stmt := topS 69
theorem sc_l_onward : FnScope ["_law_steps", "_law_room", "_law_sign", "_law_found", "_law_begin", "_law_named", "_law_weights_here"] ["_law_steps", "_law_room", "_law_sign"] (defScope s_l_onward) := ⟨rfl, rfl, rfl, by decide +kernel, rfl, by decide +kernel, by decide +kernel⟩
abbrev s_l_on : Stmt := topS 70
theorem sc_l_on : FnScope ["_law_fade_here", "_law_steps", "_law_room", "_law_sign", "_law_there", "_law_weights_here", "_law_bottom", "_law_one_here", "_law_total", "_law_weight"] ["_law_fade_here", "_law_steps", "_law_room", "_law_sign", "_law_there"] (defScope s_l_on) := ⟨rfl, rfl, rfl, by decide +kernel, rfl, by decide +kernel, by decide +kernel⟩
abbrev s_l_worths_of : Stmt := topS 71
theorem sc_l_worths_of : FnScope ["_law_row_here", "_law_fade_here", "_law_many", "_law_steps", "_law_found", "_law_word", "_law_told_here", "_law_one_here", "_law_other", "_law_lesser", "_law_greater", "_law_room"] ["_law_row_here", "_law_fade_here", "_law_many", "_law_steps", "_law_found"] (defScope s_l_worths_of) := ⟨rfl, rfl, rfl, by decide +kernel, rfl, by decide +kernel, by decide +kernel⟩
abbrev s_l_worths : Stmt := topS 72
theorem sc_l_worths : FnScope ["_law_rows_here", "_law_fade_here", "_law_many", "_law_steps", "_law_found", "_law_row_here"] ["_law_rows_here", "_law_fade_here", "_law_many", "_law_steps"] (defScope s_l_worths) := ⟨rfl, rfl, rfl, by decide +kernel, rfl, by decide +kernel, by decide +kernel⟩
abbrev s_l_doubled : Stmt := topS 73
theorem sc_l_doubled : FnScope ["_law_well_here", "_law_rows_here", "_law_many", "_law_found", "_law_k"] ["_law_well_here", "_law_rows_here", "_law_many"] (defScope s_l_doubled) := ⟨rfl, rfl, rfl, by decide +kernel, rfl, by decide +kernel, by decide +kernel⟩
abbrev s_l_told : Stmt := topS 74
theorem sc_l_told : FnScope ["_law_table", "_law_row_here", "_law_share_here"] ["_law_table"] (defScope s_l_told) := ⟨rfl, rfl, rfl, by decide +kernel, rfl, by decide +kernel, by decide +kernel⟩
abbrev s_l_heads : Stmt := topS 75
theorem sc_l_heads : FnScope ["_law_rows_here", "_law_row_here"] ["_law_rows_here"] (defScope s_l_heads) := ⟨rfl, rfl, rfl, by decide +kernel, rfl, by decide +kernel, by decide +kernel⟩
abbrev s_law : Stmt := topS 76
theorem sc_law : FnScope ["_law_script", "_law_cell", "_law_well_here", "_law_signs", "_law_many", "_law_steps", "_law_rows_here", "_law_fade_here", "_law_machine_here", "_law_book_here", "_law_due", "_law_turn", "_law_told_here", "_law_last", "_law_row_here"] ["_law_script"] (defScope s_law) := ⟨rfl, rfl, rfl, by decide +kernel, rfl, by decide +kernel, by decide +kernel⟩
set_option maxHeartbeats 4000000 in
structure Txt (K : PySem.W.Frag) (mg : Str → Option Value) where
  c_FarError : Addr
  g_FarError : mg "FarError" = some (.ref c_FarError)
  c_NoShare : Addr
  g_NoShare : mg "NoShare" = some (.ref c_NoShare)
  c_NoMachine : Addr
  g_NoMachine : mg "NoMachine" = some (.ref c_NoMachine)
  c_NoFade : Addr
  g_NoFade : mg "NoFade" = some (.ref c_NoFade)
  c_NoBook : Addr
  g_NoBook : mg "NoBook" = some (.ref c_NoBook)
  c_Share : Addr
  g_Share : mg "Share" = some (.ref c_Share)
  c_Machine : Addr
  g_Machine : mg "Machine" = some (.ref c_Machine)
  f_m_NoMachine_init : Addr
  d_m_NoMachine_init : FuncData
  F_m_NoMachine_init : Fun K "__init__" "NoMachine.__init__" s_m_NoMachine_init f_m_NoMachine_init d_m_NoMachine_init
  b_m_NoMachine_init : Binds K d_m_NoMachine_init ["self", "part"] []
  f_p_is_whole : Addr
  d_p_is_whole : FuncData
  F_p_is_whole : Fun K "is_whole" "is_whole" s_p_is_whole f_p_is_whole d_p_is_whole
  b_p_is_whole : Binds K d_p_is_whole ["thing"] []
  g_p_is_whole : mg "is_whole" = some (.ref f_p_is_whole)
  f_p_is_name : Addr
  d_p_is_name : FuncData
  F_p_is_name : Fun K "is_name" "is_name" s_p_is_name f_p_is_name d_p_is_name
  b_p_is_name : Binds K d_p_is_name ["thing"] []
  g_p_is_name : mg "is_name" = some (.ref f_p_is_name)
  f_p_written : Addr
  d_p_written : FuncData
  F_p_written : Fun K "written" "written" s_p_written f_p_written d_p_written
  b_p_written : Binds K d_p_written ["number"] []
  g_p_written : mg "written" = some (.ref f_p_written)
  f_m_Share_init : Addr
  d_m_Share_init : FuncData
  F_m_Share_init : FunD K "__init__" "Share.__init__" (defArgs s_m_Share_init) (defBody s_m_Share_init) (defScope s_m_Share_init) [.int 1] [] f_m_Share_init d_m_Share_init
  b_m_Share_init : Binds K d_m_Share_init ["self", "top", "bottom"] []
  e_m_Share_init : ∃ ds, Vals [.int 1] ds ∧ Binds K d_m_Share_init ["self", "top", "bottom"] ds
  f_m_Share_eq : Addr
  d_m_Share_eq : FuncData
  F_m_Share_eq : Fun K "__eq__" "Share.__eq__" s_m_Share_eq f_m_Share_eq d_m_Share_eq
  b_m_Share_eq : Binds K d_m_Share_eq ["self", "other"] []
  f_m_Share_str : Addr
  d_m_Share_str : FuncData
  F_m_Share_str : Fun K "__str__" "Share.__str__" s_m_Share_str f_m_Share_str d_m_Share_str
  b_m_Share_str : Binds K d_m_Share_str ["self"] []
  f_p_common_part : Addr
  d_p_common_part : FuncData
  F_p_common_part : Fun K "common_part" "common_part" s_p_common_part f_p_common_part d_p_common_part
  b_p_common_part : Binds K d_p_common_part ["one", "other"] []
  g_p_common_part : mg "common_part" = some (.ref f_p_common_part)
  f_p_common_multiple : Addr
  d_p_common_multiple : FuncData
  F_p_common_multiple : Fun K "common_multiple" "common_multiple" s_p_common_multiple f_p_common_multiple d_p_common_multiple
  b_p_common_multiple : Binds K d_p_common_multiple ["one", "other"] []
  g_p_common_multiple : mg "common_multiple" = some (.ref f_p_common_multiple)
  f_p_lowest_share : Addr
  d_p_lowest_share : FuncData
  F_p_lowest_share : Fun K "lowest_share" "lowest_share" s_p_lowest_share f_p_lowest_share d_p_lowest_share
  b_p_lowest_share : Binds K d_p_lowest_share ["top", "bottom"] []
  g_p_lowest_share : mg "lowest_share" = some (.ref f_p_lowest_share)
  f_p_grain_of : Addr
  d_p_grain_of : FuncData
  F_p_grain_of : Fun K "grain_of" "grain_of" s_p_grain_of f_p_grain_of d_p_grain_of
  b_p_grain_of : Binds K d_p_grain_of ["doors"] []
  g_p_grain_of : mg "grain_of" = some (.ref f_p_grain_of)
  f_p_even_level : Addr
  d_p_even_level : FuncData
  F_p_even_level : Fun K "even_level" "even_level" s_p_even_level f_p_even_level d_p_even_level
  b_p_even_level : Binds K d_p_even_level ["number", "many"] []
  g_p_even_level : mg "even_level" = some (.ref f_p_even_level)
  f_p_stepped : Addr
  d_p_stepped : FuncData
  F_p_stepped : Fun K "stepped" "stepped" s_p_stepped f_p_stepped d_p_stepped
  b_p_stepped : Binds K d_p_stepped ["doors", "sign", "level"] []
  g_p_stepped : mg "stepped" = some (.ref f_p_stepped)
  f_p_awaited : Addr
  d_p_awaited : FuncData
  F_p_awaited : Fun K "awaited" "awaited" s_p_awaited f_p_awaited d_p_awaited
  b_p_awaited : Binds K d_p_awaited ["weights", "tops", "whole"] []
  g_p_awaited : mg "awaited" = some (.ref f_p_awaited)
  f_p_lowered : Addr
  d_p_lowered : FuncData
  F_p_lowered : Fun K "lowered" "lowered" s_p_lowered f_p_lowered d_p_lowered
  b_p_lowered : Binds K d_p_lowered ["level", "grain"] []
  g_p_lowered : mg "lowered" = some (.ref f_p_lowered)
  f_p_shared_part : Addr
  d_p_shared_part : FuncData
  F_p_shared_part : Fun K "shared_part" "shared_part" s_p_shared_part f_p_shared_part d_p_shared_part
  b_p_shared_part : Binds K d_p_shared_part ["tops", "common"] []
  g_p_shared_part : mg "shared_part" = some (.ref f_p_shared_part)
  f_p_same_bottoms : Addr
  d_p_same_bottoms : FuncData
  F_p_same_bottoms : Fun K "same_bottoms" "same_bottoms" s_p_same_bottoms f_p_same_bottoms d_p_same_bottoms
  b_p_same_bottoms : Binds K d_p_same_bottoms ["one", "other"] []
  g_p_same_bottoms : mg "same_bottoms" = some (.ref f_p_same_bottoms)
  f_p_shares_at : Addr
  d_p_shares_at : FuncData
  F_p_shares_at : Fun K "shares_at" "shares_at" s_p_shares_at f_p_shares_at d_p_shares_at
  b_p_shares_at : Binds K d_p_shares_at ["level", "grain"] []
  g_p_shares_at : mg "shares_at" = some (.ref f_p_shares_at)
  f_p_share_by : Addr
  d_p_share_by : FuncData
  F_p_share_by : Fun K "share_by" "share_by" s_p_share_by f_p_share_by d_p_share_by
  b_p_share_by : Binds K d_p_share_by ["top", "bottom", "grain"] []
  g_p_share_by : mg "share_by" = some (.ref f_p_share_by)
  f_p_is_such : Addr
  d_p_is_such : FuncData
  F_p_is_such : Fun K "is_such" "is_such" s_p_is_such f_p_is_such d_p_is_such
  b_p_is_such : Binds K d_p_is_such ["thing", "kind", "at"] []
  g_p_is_such : mg "is_such" = some (.ref f_p_is_such)
  f_p_is_row : Addr
  d_p_is_row : FuncData
  F_p_is_row : Fun K "is_row" "is_row" s_p_is_row f_p_is_row d_p_is_row
  b_p_is_row : Binds K d_p_is_row ["thing", "at"] []
  g_p_is_row : mg "is_row" = some (.ref f_p_is_row)
  f_p_check_book : Addr
  d_p_check_book : FuncData
  F_p_check_book : Fun K "check_book" "check_book" s_p_check_book f_p_check_book d_p_check_book
  b_p_check_book : Binds K d_p_check_book ["thing"] []
  g_p_check_book : mg "check_book" = some (.ref f_p_check_book)
  f_p_book_grain : Addr
  d_p_book_grain : FuncData
  F_p_book_grain : Fun K "book_grain" "book_grain" s_p_book_grain f_p_book_grain d_p_book_grain
  b_p_book_grain : Binds K d_p_book_grain ["book", "fade", "doors"] []
  g_p_book_grain : mg "book_grain" = some (.ref f_p_book_grain)
  f_p_level_of : Addr
  d_p_level_of : FuncData
  F_p_level_of : Fun K "level_of" "level_of" s_p_level_of f_p_level_of d_p_level_of
  b_p_level_of : Binds K d_p_level_of ["row", "fade", "doors", "levels", "grain"] []
  g_p_level_of : mg "level_of" = some (.ref f_p_level_of)
  f_p_faded : Addr
  d_p_faded : FuncData
  F_p_faded : Fun K "faded" "faded" s_p_faded f_p_faded d_p_faded
  b_p_faded : Binds K d_p_faded ["fade", "level"] []
  g_p_faded : mg "faded" = some (.ref f_p_faded)
  f_p_inverse : Addr
  d_p_inverse : FuncData
  F_p_inverse : Fun K "inverse" "inverse" s_p_inverse f_p_inverse d_p_inverse
  b_p_inverse : Binds K d_p_inverse ["level"] []
  g_p_inverse : mg "inverse" = some (.ref f_p_inverse)
  f_p_lessened : Addr
  d_p_lessened : FuncData
  F_p_lessened : Fun K "lessened" "lessened" s_p_lessened f_p_lessened d_p_lessened
  b_p_lessened : Binds K d_p_lessened ["level", "share"] []
  g_p_lessened : mg "lessened" = some (.ref f_p_lessened)
  f_p_check_fade : Addr
  d_p_check_fade : FuncData
  F_p_check_fade : Fun K "check_fade" "check_fade" s_p_check_fade f_p_check_fade d_p_check_fade
  b_p_check_fade : Binds K d_p_check_fade ["thing"] []
  g_p_check_fade : mg "check_fade" = some (.ref f_p_check_fade)
  f_m_Machine_init : Addr
  d_m_Machine_init : FuncData
  F_m_Machine_init : Fun K "__init__" "Machine.__init__" s_m_Machine_init f_m_Machine_init d_m_Machine_init
  b_m_Machine_init : Binds K d_m_Machine_init ["self", "many", "steps"] []
  f_m_Machine_eq : Addr
  d_m_Machine_eq : FuncData
  F_m_Machine_eq : Fun K "__eq__" "Machine.__eq__" s_m_Machine_eq f_m_Machine_eq d_m_Machine_eq
  b_m_Machine_eq : Binds K d_m_Machine_eq ["self", "other"] []
  f_m_Machine_len : Addr
  d_m_Machine_len : FuncData
  F_m_Machine_len : Fun K "__len__" "Machine.__len__" s_m_Machine_len f_m_Machine_len d_m_Machine_len
  b_m_Machine_len : Binds K d_m_Machine_len ["self"] []
  f_p_is_room : Addr
  d_p_is_room : FuncData
  F_p_is_room : Fun K "is_room" "is_room" s_p_is_room f_p_is_room d_p_is_room
  b_p_is_room : Binds K d_p_is_room ["thing", "many"] []
  g_p_is_room : mg "is_room" = some (.ref f_p_is_room)
  f_p_are_weights : Addr
  d_p_are_weights : FuncData
  F_p_are_weights : Fun K "are_weights" "are_weights" s_p_are_weights f_p_are_weights d_p_are_weights
  b_p_are_weights : Binds K d_p_are_weights ["thing", "many"] []
  g_p_are_weights : mg "are_weights" = some (.ref f_p_are_weights)
  f_p_is_step : Addr
  d_p_is_step : FuncData
  F_p_is_step : Fun K "is_step" "is_step" s_p_is_step f_p_is_step d_p_is_step
  b_p_is_step : Binds K d_p_is_step ["thing", "many"] []
  g_p_is_step : mg "is_step" = some (.ref f_p_is_step)
  f_p_are_steps : Addr
  d_p_are_steps : FuncData
  F_p_are_steps : Fun K "are_steps" "are_steps" s_p_are_steps f_p_are_steps d_p_are_steps
  b_p_are_steps : Binds K d_p_are_steps ["thing", "many"] []
  g_p_are_steps : mg "are_steps" = some (.ref f_p_are_steps)
  f_p_lowest : Addr
  d_p_lowest : FuncData
  F_p_lowest : Fun K "lowest" "lowest" s_p_lowest f_p_lowest d_p_lowest
  b_p_lowest : Binds K d_p_lowest ["weights"] []
  g_p_lowest : mg "lowest" = some (.ref f_p_lowest)
  f_p_doors_of : Addr
  d_p_doors_of : FuncData
  F_p_doors_of : Fun K "doors_of" "doors_of" s_p_doors_of f_p_doors_of d_p_doors_of
  b_p_doors_of : Binds K d_p_doors_of ["machine"] []
  g_p_doors_of : mg "doors_of" = some (.ref f_p_doors_of)
  f_p_worths : Addr
  d_p_worths : FuncData
  F_p_worths : Fun K "worths" "worths" s_p_worths f_p_worths d_p_worths
  b_p_worths : Binds K d_p_worths ["book", "fade", "machine"] []
  g_p_worths : mg "worths" = some (.ref f_p_worths)
  f_p_worth : Addr
  d_p_worth : FuncData
  F_p_worth : Fun K "worth" "worth" s_p_worth f_p_worth d_p_worth
  b_p_worth : Binds K d_p_worth ["book", "fade", "machine"] []
  g_p_worth : mg "worth" = some (.ref f_p_worth)
  f_l_well : Addr
  d_l_well : FuncData
  F_l_well : Fun K "_law_well" "_law_well" s_l_well f_l_well d_l_well
  b_l_well : Binds K d_l_well ["_law_cell"] []
  g_l_well : mg "_law_well" = some (.ref f_l_well)
  f_l_draw : Addr
  d_l_draw : FuncData
  F_l_draw : Fun K "_law_draw" "_law_draw" s_l_draw f_l_draw d_l_draw
  b_l_draw : Binds K d_l_draw ["_law_well_here", "_law_many"] []
  g_l_draw : mg "_law_draw" = some (.ref f_l_draw)
  f_l_one : Addr
  d_l_one : FuncData
  F_l_one : Fun K "_law_one" "_law_one" s_l_one f_l_one d_l_one
  b_l_one : Binds K d_l_one ["_law_well_here", "_law_some"] []
  g_l_one : mg "_law_one" = some (.ref f_l_one)
  f_l_names : Addr
  d_l_names : FuncData
  F_l_names : Fun K "_law_names" "_law_names" s_l_names f_l_names d_l_names
  b_l_names : Binds K d_l_names ["_law_well_here", "_law_many"] []
  g_l_names : mg "_law_names" = some (.ref f_l_names)
  f_l_weights : Addr
  d_l_weights : FuncData
  F_l_weights : Fun K "_law_weights" "_law_weights" s_l_weights f_l_weights d_l_weights
  b_l_weights : Binds K d_l_weights ["_law_well_here", "_law_many"] []
  g_l_weights : mg "_law_weights" = some (.ref f_l_weights)
  f_l_machine : Addr
  d_l_machine : FuncData
  F_l_machine : Fun K "_law_machine" "_law_machine" s_l_machine f_l_machine d_l_machine
  b_l_machine : Binds K d_l_machine ["_law_well_here", "_law_signs", "_law_most"] []
  g_l_machine : mg "_law_machine" = some (.ref f_l_machine)
  f_l_fade : Addr
  d_l_fade : FuncData
  F_l_fade : Fun K "_law_fade" "_law_fade" s_l_fade f_l_fade d_l_fade
  b_l_fade : Binds K d_l_fade ["_law_well_here"] []
  g_l_fade : mg "_law_fade" = some (.ref f_l_fade)
  f_l_low : Addr
  d_l_low : FuncData
  F_l_low : Fun K "_law_low" "_law_low" s_l_low f_l_low d_l_low
  b_l_low : Binds K d_l_low ["_law_top", "_law_bottom"] []
  g_l_low : mg "_law_low" = some (.ref f_l_low)
  f_l_less : Addr
  d_l_less : FuncData
  F_l_less : Fun K "_law_less" "_law_less" s_l_less f_l_less d_l_less
  b_l_less : Binds K d_l_less ["_law_one_here", "_law_other"] []
  g_l_less : mg "_law_less" = some (.ref f_l_less)
  f_l_minus : Addr
  d_l_minus : FuncData
  F_l_minus : Fun K "_law_minus" "_law_minus" s_l_minus f_l_minus d_l_minus
  b_l_minus : Binds K d_l_minus ["_law_one_here", "_law_other"] []
  g_l_minus : mg "_law_minus" = some (.ref f_l_minus)
  f_l_share : Addr
  d_l_share : FuncData
  F_l_share : Fun K "_law_share" "_law_share" s_l_share f_l_share d_l_share
  b_l_share : Binds K d_l_share ["_law_well_here"] []
  g_l_share : mg "_law_share" = some (.ref f_l_share)
  f_l_row : Addr
  d_l_row : FuncData
  F_l_row : Fun K "_law_row" "_law_row" s_l_row f_l_row d_l_row
  b_l_row : Binds K d_l_row ["_law_well_here", "_law_signs", "_law_at"] []
  g_l_row : mg "_law_row" = some (.ref f_l_row)
  f_l_rows : Addr
  d_l_rows : FuncData
  F_l_rows : Fun K "_law_rows" "_law_rows" s_l_rows f_l_rows d_l_rows
  b_l_rows : Binds K d_l_rows ["_law_well_here", "_law_signs", "_law_most"] []
  g_l_rows : mg "_law_rows" = some (.ref f_l_rows)
  f_l_book : Addr
  d_l_book : FuncData
  F_l_book : Fun K "_law_book" "_law_book" s_l_book f_l_book d_l_book
  b_l_book : Binds K d_l_book ["_law_rows_here"] []
  g_l_book : mg "_law_book" = some (.ref f_l_book)
  f_l_onward : Addr
  d_l_onward : FuncData
  F_l_onward : Fun K "_law_onward" "_law_onward" s_l_onward f_l_onward d_l_onward
  b_l_onward : Binds K d_l_onward ["_law_steps", "_law_room", "_law_sign"] []
  g_l_onward : mg "_law_onward" = some (.ref f_l_onward)
  f_l_on : Addr
  d_l_on : FuncData
  F_l_on : Fun K "_law_on" "_law_on" s_l_on f_l_on d_l_on
  b_l_on : Binds K d_l_on ["_law_fade_here", "_law_steps", "_law_room", "_law_sign", "_law_there"] []
  g_l_on : mg "_law_on" = some (.ref f_l_on)
  f_l_worths_of : Addr
  d_l_worths_of : FuncData
  F_l_worths_of : Fun K "_law_worths_of" "_law_worths_of" s_l_worths_of f_l_worths_of d_l_worths_of
  b_l_worths_of : Binds K d_l_worths_of ["_law_row_here", "_law_fade_here", "_law_many", "_law_steps", "_law_found"] []
  g_l_worths_of : mg "_law_worths_of" = some (.ref f_l_worths_of)
  f_l_worths : Addr
  d_l_worths : FuncData
  F_l_worths : Fun K "_law_worths" "_law_worths" s_l_worths f_l_worths d_l_worths
  b_l_worths : Binds K d_l_worths ["_law_rows_here", "_law_fade_here", "_law_many", "_law_steps"] []
  g_l_worths : mg "_law_worths" = some (.ref f_l_worths)
  f_l_doubled : Addr
  d_l_doubled : FuncData
  F_l_doubled : Fun K "_law_doubled" "_law_doubled" s_l_doubled f_l_doubled d_l_doubled
  b_l_doubled : Binds K d_l_doubled ["_law_well_here", "_law_rows_here", "_law_many"] []
  g_l_doubled : mg "_law_doubled" = some (.ref f_l_doubled)
  f_l_told : Addr
  d_l_told : FuncData
  F_l_told : Fun K "_law_told" "_law_told" s_l_told f_l_told d_l_told
  b_l_told : Binds K d_l_told ["_law_table"] []
  g_l_told : mg "_law_told" = some (.ref f_l_told)
  f_l_heads : Addr
  d_l_heads : FuncData
  F_l_heads : Fun K "_law_heads" "_law_heads" s_l_heads f_l_heads d_l_heads
  b_l_heads : Binds K d_l_heads ["_law_rows_here"] []
  g_l_heads : mg "_law_heads" = some (.ref f_l_heads)
  f_law : Addr
  d_law : FuncData
  F_law : Fun K "law" "law" s_law f_law d_law
  b_law : Binds K d_law ["_law_script"] []
  g_law : mg "law" = some (.ref f_law)
  cl_Share : Cls K c_Share
  M_Share : Mk K c_Share f_m_Share_init
  ti_Share : TyIns K c_Share
  n_Share_top : NoAttr K c_Share "top"
  n_Share_bottom : NoAttr K c_Share "bottom"
  h_m_Share_eq : Meth K c_Share "__eq__" f_m_Share_eq
  h_m_Share_str : Meth K c_Share "__str__" f_m_Share_str
  ne_Share : PySem.W.findIn K (.ref c_Share) "__ne__" = some (some (.builtin "object.__ne__"))
  nf_Share_int : PySem.W.notFirst K c_Share (.type "int") = true
  nf_Share_str : PySem.W.notFirst K c_Share (.type "str") = true
  nf_Share_NoneType : PySem.W.notFirst K c_Share (.type "NoneType") = true
  nf_Share_list : PySem.W.notFirst K c_Share (.type "list") = true
  nf_Share_tuple : PySem.W.notFirst K c_Share (.type "tuple") = true
  nf_Share_dict : PySem.W.notFirst K c_Share (.type "dict") = true
  nf_Share_bool : PySem.W.notFirst K c_Share (.type "bool") = true
  k_Share : PySem.W.kitOne K (.ref c_Share) (.ref c_Share) = some true
  k_Share_int : PySem.W.kitOne K (.type "int") (.ref c_Share) = some false
  k_Share_str : PySem.W.kitOne K (.type "str") (.ref c_Share) = some false
  k_Share_NoneType : PySem.W.kitOne K (.type "NoneType") (.ref c_Share) = some false
  k_Share_list : PySem.W.kitOne K (.type "list") (.ref c_Share) = some false
  k_Share_tuple : PySem.W.kitOne K (.type "tuple") (.ref c_Share) = some false
  k_Share_dict : PySem.W.kitOne K (.type "dict") (.ref c_Share) = some false
  k_Share_bool : PySem.W.kitOne K (.type "bool") (.ref c_Share) = some false
  cl_Machine : Cls K c_Machine
  M_Machine : Mk K c_Machine f_m_Machine_init
  ti_Machine : TyIns K c_Machine
  n_Machine_many : NoAttr K c_Machine "many"
  n_Machine_steps : NoAttr K c_Machine "steps"
  h_m_Machine_eq : Meth K c_Machine "__eq__" f_m_Machine_eq
  h_m_Machine_len : Meth K c_Machine "__len__" f_m_Machine_len
  ne_Machine : PySem.W.findIn K (.ref c_Machine) "__ne__" = some (some (.builtin "object.__ne__"))
  nf_Machine_int : PySem.W.notFirst K c_Machine (.type "int") = true
  nf_Machine_str : PySem.W.notFirst K c_Machine (.type "str") = true
  nf_Machine_NoneType : PySem.W.notFirst K c_Machine (.type "NoneType") = true
  nf_Machine_list : PySem.W.notFirst K c_Machine (.type "list") = true
  nf_Machine_tuple : PySem.W.notFirst K c_Machine (.type "tuple") = true
  nf_Machine_dict : PySem.W.notFirst K c_Machine (.type "dict") = true
  nf_Machine_bool : PySem.W.notFirst K c_Machine (.type "bool") = true
  k_Machine : PySem.W.kitOne K (.ref c_Machine) (.ref c_Machine) = some true
  k_Machine_int : PySem.W.kitOne K (.type "int") (.ref c_Machine) = some false
  k_Machine_str : PySem.W.kitOne K (.type "str") (.ref c_Machine) = some false
  k_Machine_NoneType : PySem.W.kitOne K (.type "NoneType") (.ref c_Machine) = some false
  k_Machine_list : PySem.W.kitOne K (.type "list") (.ref c_Machine) = some false
  k_Machine_tuple : PySem.W.kitOne K (.type "tuple") (.ref c_Machine) = some false
  k_Machine_dict : PySem.W.kitOne K (.type "dict") (.ref c_Machine) = some false
  k_Machine_bool : PySem.W.kitOne K (.type "bool") (.ref c_Machine) = some false
  u_LETTERS : Value
  g_LETTERS : mg "LETTERS" = some u_LETTERS
  r_LETTERS : RelV (.str "abcdefghijklmnopqrstuvwxyz") u_LETTERS
  u_LONGEST_NAME : Value
  g_LONGEST_NAME : mg "LONGEST_NAME" = some u_LONGEST_NAME
  r_LONGEST_NAME : RelV (.int 8) u_LONGEST_NAME
  u_PIECE_LENGTH : Value
  g_PIECE_LENGTH : mg "PIECE_LENGTH" = some u_PIECE_LENGTH
  r_PIECE_LENGTH : RelV (.int 64) u_PIECE_LENGTH
  u_MOST_ROOMS : Value
  g_MOST_ROOMS : mg "MOST_ROOMS" = some u_MOST_ROOMS
  r_MOST_ROOMS : RelV (.int 12) u_MOST_ROOMS
  prm : Params
  u_FORMS : Addr
  g_FORMS : mg "FORMS" = some (.ref u_FORMS)
  e_FORMS : Array DictEntry
  n_FORMS : Nat
  at_FORMS : K.lookup u_FORMS = some ⟨.type "dict", none, .dict e_FORMS n_FORMS, #[]⟩
  lit_FORMS : PySem.W.KeysLit prm e_FORMS.toList
  low_FORMS : (u_FORMS == sysModules) = false
  t_FORMS_0 : Addr
  k_FORMS_0 : PySem.W.nsIn K u_FORMS "one" = some (some (.ref t_FORMS_0))
  v_FORMS_0 : SqK K t_FORMS_0 []
  t_FORMS_1 : Addr
  k_FORMS_1 : PySem.W.nsIn K u_FORMS "can" = some (some (.ref t_FORMS_1))
  v_FORMS_1 : SqK K t_FORMS_1 [.str "sign"]
  t_FORMS_2 : Addr
  k_FORMS_2 : PySem.W.nsIn K u_FORMS "on" = some (some (.ref t_FORMS_2))
  v_FORMS_2 : SqK K t_FORMS_2 [.str "sign", .str "number"]
  t_FORMS_3 : Addr
  k_FORMS_3 : PySem.W.nsIn K u_FORMS "not" = some (some (.ref t_FORMS_3))
  v_FORMS_3 : SqK K t_FORMS_3 [.str "number"]
  t_FORMS_4 : Addr
  k_FORMS_4 : PySem.W.nsIn K u_FORMS "less" = some (some (.ref t_FORMS_4))
  v_FORMS_4 : SqK K t_FORMS_4 [.str "number", .str "share"]
  t_FORMS_5 : Addr
  k_FORMS_5 : PySem.W.nsIn K u_FORMS "both" = some (some (.ref t_FORMS_5))
  v_FORMS_5 : SqK K t_FORMS_5 [.str "number", .str "number"]
  t_FORMS_6 : Addr
  k_FORMS_6 : PySem.W.nsIn K u_FORMS "either" = some (some (.ref t_FORMS_6))
  v_FORMS_6 : SqK K t_FORMS_6 [.str "number", .str "number"]
  z_isinstance : mg "isinstance" = none
  z_int : mg "int" = none
  z_bool : mg "bool" = none
  z_all : mg "all" = none
  z_str : mg "str" = none
  z_len : mg "len" = none
  z_divmod : mg "divmod" = none
  z_abs : mg "abs" = none
  z_sum : mg "sum" = none
  z_range : mg "range" = none
  z_zip : mg "zip" = none
  z_tuple : mg "tuple" = none
  z_list : mg "list" = none
  z_enumerate : mg "enumerate" = none
  z_max : mg "max" = none
  z_min : mg "min" = none
  z_sorted : mg "sorted" = none
  z_any : mg "any" = none
end Fb

namespace Fb
open PySem PySem.Spec PyProof.Rows L2
section
variable {P : Program} {w : World} {K : PySem.W.Frag} {mg : Str → Option Value} {base : Heap}
/-! ### is_whole, of whole numbers -/
def spWhole : Sp := fun vs H Q _ => ∃ i : Int, vs = [.int i] ∧ Q (.bl true) H
theorem ok_p_is_whole (T : Txt K mg) : FnOk P w K mg base CX0 1 T.f_p_is_whole T.d_p_is_whole ["thing"] spWhole := by
  refine T.F_p_is_whole.ok sc_p_is_whole (fun vs H Q E h => ?_) (fun cdv A outer s H vs Q E hr h => ?_)
  · obtain ⟨i, rfl, _⟩ := h
    rfl
  · obtain ⟨i, rfl, q⟩ := h
    refine ⟨_, (pss_one (ps_ret (pe_and (pe_callB call_isi (by rfl) T.z_isinstance (by decide +kernel) (pa_cons (pv 0) (pa_cons (pe_bltn (v := .ty "int") (by rfl) T.z_int (by decide +kernel) rfl) pa_nil))) (pe_one (pe_not (pe_callB call_isi (by rfl) T.z_isinstance (by decide +kernel) (pa_cons (pv 0) (pa_cons (pe_bltn (v := .ty "bool") (by rfl) T.z_bool (by decide +kernel) rfl) pa_nil)))))))), ?_⟩
    refine ⟨_, rfl, _, _, _, _, true, rfl, .ty _, .base (.int i), kit_ty (by decide +kernel), true, rfl, ?_⟩
    refine iteT ?_
    exact ⟨_, rfl, _, _, _, _, false, rfl, .ty _, .base (.int i), kit_ty (by decide +kernel), false, rfl, q⟩
/-! ### common_part -/
def spGcd : Sp := fun vs H Q _ => ∃ a b : Int, vs = [.int a, .int b] ∧ Q (.int (Int.gcd a b : Int)) H
theorem ok_p_common_part (T : Txt K mg) : FnOk P w K mg base CX0 1 T.f_p_common_part T.d_p_common_part ["one", "other"] spGcd := by
  refine T.F_p_common_part.ok sc_p_common_part (fun vs H Q E h => ?_) (fun cdv A outer s H vs Q E hr h => ?_)
  · obtain ⟨a, b, rfl, _⟩ := h
    rfl
  · obtain ⟨a, b, rfl, q⟩ := h
    refine ⟨_, (pss_cons (ps_while PassesOwn.never (pt_cmpR op_ne (pv 1) pe_int (nomark _))
  (pss_one (ps_par (i := 0) (j := 1) (by rfl) sc_p_common_part.nd rfl rfl (by decide) rfl rfl (pa_cons (pv 1) (pa_cons (pe_op op_modN (pv 0) (pv 1)) pa_nil)) (by rfl))))
 (pss_one (ps_ret (pe_callB call_abs (by rfl) T.z_abs (by decide +kernel) (pa_cons (pv 0) pa_nil))))), ?_⟩
    refine ⟨fun m σ H' => ∃ x y : Int, σ = [some (.int x), some (.int y)] ∧ m = y.natAbs ∧ Int.gcd x y = Int.gcd a b ∧ H' = H, ⟨_, a, b, rfl, rfl, rfl, rfl⟩, fun m σ H' hW => ?_⟩
    obtain ⟨x, y, rfl, rfl, hg, rfl⟩ := hW
    refine ⟨_, rfl, rfl, _, rfl, ?_⟩
    by_cases hy : y = 0
    · subst hy
      refine iteF ?_
      refine ⟨_, rfl, x, rfl, ?_⟩
      have e : (if x < 0 then -x else x) = (Int.gcd a b : Int) := by
        rw [← hg, Int.gcd_zero_right]
        split <;> omega
      rw [e]
      exact q
    · have ne : (!decide (V.int y = V.int 0)) = true := by
        rw [decide_eq_false (fun z => hy (V.int.inj z))]
        rfl
      rw [ne]
      refine iteT ?_
      refine ⟨fun σ' H'' => σ' = [some (.int y), some (.int (x.fmod y))] ∧ H'' = H', fun σ' H'' h => ?_, ?_⟩
      · obtain ⟨rfl, rfl⟩ := h
        exact ⟨_, fmod_lt x y hy, y, _, rfl, rfl, by rw [gcd_step, hg], rfl⟩
      · exact ⟨_, rfl, _, rfl, _, rfl, _, _, rfl, rfl, hy, _, _, rfl, rfl, rfl⟩
theorem log2_mono {a b : Nat} (h : a ≤ b) : a.log2 ≤ b.log2 := by
  by_cases ha : a = 0
  · subst ha
    simp
  · have hb : b ≠ 0 := by omega
    rw [Nat.le_log2 hb]
    exact Nat.le_trans (Nat.log2_self_le ha) h
theorem nat_abs {n m : Nat} (h : n < m) : (n : Int).natAbs < m := h
end

end Fb

namespace Fb
open PySem PySem.Spec PyProof.Rows L2
section
variable {P : Program} {w : World} {K : PySem.W.Frag} {mg : Str → Option Value} {base : Heap}
/-! ### Share(top, bottom) -/
def spShare (C : Addr) : Sp := fun vs H Q _ => ∃ (p dx : Addr) (t b : Int), vs = [.ref p, .int t, .int b] ∧ H p = some (.ins C dx []) ∧ b ≠ 0 ∧ b.natAbs.log2 < 9000 ∧
  ∀ H', (∀ a o, H a = some o → a ≠ p → H' a = some o) → H' p = some (.ins C dx (flds (Rat.divInt t b))) → Q .non H'
theorem ok_m_Share_init (T : Txt K mg) : FnOk P w K mg base CX0 2 T.f_m_Share_init T.d_m_Share_init ["self", "top", "bottom"] (spShare T.c_Share) := by
  refine T.F_m_Share_init.ok sc_m_Share_init (fun vs H Q E h => ?_) (fun cdv A outer s H vs Q E hr h => ?_)
  · obtain ⟨p, dx, t, b, rfl, _⟩ := h
    rfl
  · obtain ⟨p, dx, t, b, rfl, hp, hb, hl, q⟩ := h
    refine ⟨_, PSs.nox (pss_cons (ps_if (PW.pt (pw_or (pt_not (pt_val (pe_call (ok_p_is_whole T) (hr.mono (by decide)) (by rfl) T.g_p_is_whole T.F_p_is_whole.kp T.b_p_is_whole .nil pass0 (pa_cons (pv 1) pa_nil)))) (pw_or (pt_not (pt_val (pe_call (ok_p_is_whole T) (hr.mono (by decide)) (by rfl) T.g_p_is_whole T.F_p_is_whole.kp T.b_p_is_whole .nil pass0 (pa_cons (pv 2) pa_nil)))) (pw_or1 (pt_cmpR op_eq (pv 2) pe_int (nomark _))))))
  (pss_one ps_never)
  pss_nil)
 (pss_cons (ps_set (i := 3) sc_m_Share_init.nd rfl (.inl rfl) (pe_call (ok_p_common_part T) (hr.mono (by decide)) (by rfl) T.g_p_common_part T.F_p_common_part.kp T.b_p_common_part .nil pass0 (pa_cons (pv 1) (pa_cons (pv 2) pa_nil))))
 (pss_cons (ps_if (pt_cmpR op_lt (pv 2) pe_int (nomark _))
  (pss_one (ps_set (i := 3) sc_m_Share_init.nd rfl (.inl rfl) (pe_un un_neg (pv 3))))
  pss_nil)
 (pss_cons (ps_fld (pv 0) (pe_op op_fdivZ (pv 1) (pv 3)) rfl)
 (pss_one (ps_fld (pv 0) (pe_op op_fdivZ (pv 2) (pv 3)) rfl)))))), ?_⟩
    -- the test is false
    refine ⟨_, rfl, t, rfl, true, rfl, ?_⟩
    refine iteF ?_
    refine ⟨_, rfl, b, rfl, true, rfl, ?_⟩
    refine iteF ?_
    refine ⟨_, rfl, rfl, _, rfl, ?_⟩
    rw [decide_eq_false (fun z => hb (V.int.inj z))]
    refine iteF ?_
    -- common
    refine ⟨_, rfl, _, rfl, t, b, rfl, ?_⟩
    have fin : ∀ (c : Int), c = cut t b → (sFld K (tVar 0) (tOp (rI CDivZ fun i j => .int (i.fdiv j)) (tVar 1) (tVar 3)) "top") { nx := (sFld K (tVar 0) (tOp (rI CDivZ fun i j => .int (i.fdiv j)) (tVar 2) (tVar 3)) "bottom") { nx := fun _ H' => Q .non H', rt := Q }, rt := Q } [some (.ref p), some (.int t), some (.int b), some (.int c)] H := by
      intro c hc
      subst hc
      have hd : ∀ i, CDivZ i (cut t b) := fun _ => ⟨cut_ne hb, Nat.lt_of_le_of_lt (log2_mono (cut_le hb)) hl⟩
      refine ⟨_, rfl, _, rfl, _, _, rfl, rfl, hd _, _, rfl, p, T.c_Share, dx, [], rfl, hp, T.cl_Share, T.n_Share_top, (by show 0 < 1000; decide), ?_⟩
      refine ⟨_, rfl, _, rfl, _, _, rfl, rfl, hd _, _, rfl, p, T.c_Share, dx, _, rfl, upd_same, T.cl_Share, T.n_Share_bottom, (by show 1 < 1000; decide), ?_⟩
      refine q _ (fun a o e ne => ?_) ?_
      · rw [upd_ne ne, upd_ne ne]
        exact e
      · dsimp only
        rw [upd_same, cut_top hb, cut_bottom hb]
        rfl
    refine ⟨_, rfl, _, _, rfl, rfl, _, rfl, ite2 (fun h => ?_) (fun h => ?_)⟩
    · have h' : b < 0 := of_decide_eq_true h
      refine ⟨_, rfl, _, rfl, ?_⟩
      exact fin _ (by unfold cut; rw [if_pos h'])
    · have h' : ¬ b < 0 := fun z => h (decide_eq_true z)
      exact fin _ (by unfold cut; rw [if_neg h'])
/-- Share(t, b) as its caller sees it -/
theorem mk_share {C : Addr} {H : Hp} {t b : Int} {Q : Addr → Hp → Prop} {E : XK} (hb : b ≠ 0) (hl : b.natAbs.log2 < 9000) (q : ∀ H' r, Same H H' → IsShare C H' (.ref r) (Rat.divInt t b) → Q r H') :
    ∀ x dx, H x = none → H dx = none → dx ≠ x → spShare C (.ref x :: ([.int t, .int b] ++ [])) (upd (upd H dx (.own x)) x (.ins C dx [])) (fun v H2 => v = .non ∧ Q x H2) E := by
  intro x dx nx ndx ne
  refine ⟨x, dx, t, b, rfl, upd_same, hb, hl, fun H' k e => ⟨rfl, q H' x (fun a o ea => ?_) ⟨x, dx, rfl, e⟩⟩⟩
  have h1 : a ≠ x := ne_of_none ea nx
  refine k a o ?_ h1
  rw [upd_ne h1, upd_ne (ne_of_none ea ndx)]
  exact ea
end

end Fb

namespace Fb
open PySem PySem.Spec PyProof.Rows L2
section
variable {P : Program} {w : World} {K : PySem.W.Frag} {mg : Str → Option Value} {base : Heap}
/-! ### the class's own == -/
def spEq (K : PySem.W.Frag) (C : Addr) : Sp := fun vs H Q _ => ∃ (v u : V) (x : Rat), vs = [v, u] ∧ IsShare C H v x ∧
  ((∃ y : Rat, IsShare C H u y ∧ Q (.bl (decide (x = y))) H) ∨ ∃ t, TyX K H u t ∧ PySem.W.kitOne K t (.ref C) = some false ∧ Q (.bl false) H)
theorem tyShare (T : Txt K mg) {H : Hp} {p dx : Addr} {fs : List (Str × V)} (h : H p = some (.ins T.c_Share dx fs)) : TyX K H (.ref p) (.ref T.c_Share) :=
  .base (.ins h T.cl_Share T.ti_Share.ha T.ti_Share.hn T.ti_Share.htk T.ti_Share.hm)
theorem ok_m_Share_eq (T : Txt K mg) : FnOk P w K mg base CX0 1 T.f_m_Share_eq T.d_m_Share_eq ["self", "other"] (spEq K T.c_Share) := by
  refine T.F_m_Share_eq.ok sc_m_Share_eq (fun vs H Q E h => ?_) (fun cdv A outer s H vs Q E hr h => ?_)
  · obtain ⟨v, u, x, rfl, _⟩ := h
    rfl
  · obtain ⟨v, u, x, rfl, ⟨p, dx, rfl, hx⟩, h⟩ := h
    refine ⟨_, (pss_one (ps_ret (pe_and (pe_callB call_isi (by rfl) T.z_isinstance (by decide +kernel) (pa_cons (pv 1) (pa_cons (pe_glob (v := .ref T.c_Share) (by rfl) T.g_Share rfl) pa_nil))) (pe_and (pe_cmpR op_eq (pe_fld (pv 0) rfl) (pe_fld (pv 1) rfl) (nomark _)) (pe_one (pe_cmpR op_eq (pe_fld (pv 0) rfl) (pe_fld (pv 1) rfl) (nomark _))))))), ?_⟩
    rcases h with ⟨y, ⟨p', dx', rfl, hy⟩, q⟩ | ⟨t, ty, kt, q⟩
    · refine ⟨_, rfl, _, _, _, _, true, rfl, .own _, tyShare T hy, T.k_Share, true, rfl, iteT ?_⟩
      refine ⟨_, rfl, _, _, _, _, _, rfl, hx, T.cl_Share, T.n_Share_top, flds_top _, _, rfl, _, _, _, _, _, rfl, hy, T.cl_Share, T.n_Share_top, flds_top _, rfl, _, rfl, ?_⟩
      by_cases h1 : x.num = y.num
      · rw [h1, decide_eq_true rfl]
        refine iteT ?_
        refine ⟨_, rfl, _, _, _, _, _, rfl, hx, T.cl_Share, T.n_Share_bottom, flds_bottom _, _, rfl, _, _, _, _, _, rfl, hy, T.cl_Share, T.n_Share_bottom, flds_bottom _, rfl, ?_⟩
        have e : decide (V.int (x.den : Int) = V.int (y.den : Int)) = decide (x = y) := by
          refine decide_eq_decide.mpr ⟨fun z => ?_, fun z => by rw [z]⟩
          have z' : (x.den : Int) = (y.den : Int) := V.int.inj z
          exact Rat.ext h1 (by omega)
        rw [e]
        exact q
      · rw [decide_eq_false (fun z => h1 (V.int.inj z))]
        refine iteF ?_
        have e : decide (x = y) = false := decide_eq_false fun z => h1 (by rw [z])
        rw [e] at q
        exact q
    · exact ⟨_, rfl, _, _, _, _, false, rfl, .own _, ty, kt, false, rfl, iteF q⟩
/-- == or != of two shares -/
theorem eqS (T : Txt K mg) {H : Hp} {v u : V} {x y : Rat} {g : Bool → Bool} {Q : VK} (hx : IsShare T.c_Share H v x) (hy : IsShare T.c_Share H u y) (q : Q (.bl (g (decide (x = y)))) H) : rOwn2 K T.c_Share (spEq K T.c_Share) g v u H Q := by
  obtain ⟨p, dx, rfl, h⟩ := id hx
  obtain ⟨p', dx', rfl, h'⟩ := id hy
  exact ⟨p, dx, _, _, rfl, h, tyShare T h', by simp [PySem.W.notFirst], _, _, x, rfl, hx, .inl ⟨y, hy, _, rfl, q⟩⟩
/-- of a share and what is none -/
theorem eqN (T : Txt K mg) {H : Hp} {v u : V} {x : Rat} {t : Value} {g : Bool → Bool} {Q : VK} (hx : IsShare T.c_Share H v x) (ty : TyX K H u t) (nf : PySem.W.notFirst K T.c_Share t = true) (kt : PySem.W.kitOne K t (.ref T.c_Share) = some false) (q : Q (.bl (g false)) H) :
    rOwn2 K T.c_Share (spEq K T.c_Share) g v u H Q := by
  obtain ⟨p, dx, rfl, h⟩ := id hx
  exact ⟨p, dx, _, _, rfl, h, ty, nf, _, _, x, rfl, hx, .inr ⟨t, ty, kt, _, rfl, q⟩⟩
end

end Fb

namespace Fb
open PySem PySem.Spec PyProof.Rows L2
section
variable {P : Program} {w : World} {K : PySem.W.Frag} {mg : Str → Option Value} {base : Heap}
/-! ### common_multiple -/
def spCm : Sp := fun vs H Q _ => ∃ L d : Nat, vs = [.int L, .int d] ∧ 0 < L ∧ 0 < d ∧ L < 2 ^ 8001 ∧ d < 2 ^ 8001 ∧ Q (.int ((L * (d / Nat.gcd L d) : Nat))) H
theorem ok_p_common_multiple (T : Txt K mg) : FnOk P w K mg base CX0 2 T.f_p_common_multiple T.d_p_common_multiple ["one", "other"] spCm := by
  refine T.F_p_common_multiple.ok sc_p_common_multiple (fun vs H Q E h => ?_) (fun cdv A outer s H vs Q E hr h => ?_)
  · obtain ⟨L, d, rfl, _⟩ := h
    rfl
  · obtain ⟨L, d, rfl, L0, d0, hL, hd, q⟩ := h
    refine ⟨_, (pss_one (ps_ret (pe_op op_mulW (pe_op op_fdivW (pv 0) (pe_call (ok_p_common_part T) (hr.mono (by decide)) (by rfl) T.g_p_common_part T.F_p_common_part.kp T.b_p_common_part .nil pass0 (pa_cons (pv 0) (pa_cons (pv 1) pa_nil)))) (pv 1)))), ?_⟩
    have hg : 0 < Nat.gcd L d := Nat.gcd_pos_of_pos_left _ L0
    have hgle : Nat.gcd L d ≤ L := Nat.le_of_dvd L0 (Nat.gcd_dvd_left _ _)
    refine ⟨_, rfl, _, rfl, _, rfl, _, _, rfl, _, _, rfl, rfl, wide_div (b := 8001) ?_ ?_ (by decide) (by decide), _, rfl, _, _, rfl, rfl, wide_mul (a := 8001) (b := 8001) ?_ (nat_abs hd) (by decide) (by decide) (by decide), ?_⟩
    · show (0 : Int) < ((Int.gcd (L : Nat) (d : Nat) : Nat) : Int)
      rw [Int.gcd_natCast_natCast]
      omega
    · show ((Int.gcd (L : Nat) (d : Nat) : Nat) : Int).natAbs < 2 ^ 8001
      rw [Int.gcd_natCast_natCast]
      exact nat_abs (Nat.lt_of_le_of_lt hgle hL)
    · show (((L : Int) / ((Int.gcd (L : Nat) (d : Nat) : Nat) : Int))).natAbs < 2 ^ 8001
      rw [Int.gcd_natCast_natCast, ← Int.natCast_ediv]
      exact nat_abs (Nat.lt_of_le_of_lt (Nat.div_le_self _ _) hL)
    · have e : ((L : Int) / ((Int.gcd (L : Nat) (d : Nat) : Nat) : Int)) * (d : Int) = ((L * (d / Nat.gcd L d) : Nat) : Int) := by
        rw [Int.gcd_natCast_natCast, ← Int.natCast_ediv, ← Int.natCast_mul]
        congr 1
        rw [Nat.div_mul_right_comm (Nat.gcd_dvd_left L d), ← Nat.mul_div_assoc _ (Nat.gcd_dvd_right L d)]
      dsimp only
      rw [e]
      exact q
end

end Fb

namespace Fb
open PySem PySem.Spec PyProof.Rows L2
section
variable {P : Program} {w : World} {K : PySem.W.Frag} {mg : Str → Option Value} {base : Heap}
/-! ### the law's well -/
def spWell : Sp := fun vs H Q _ => ∃ c : Int, vs = [.int c] ∧ ∀ a H', H a = none → Same H (hid a H') → WellAt H' a 1099511627776 → Q (.ref a) H'
theorem ok_l_well (T : Txt K mg) : FnOk P w K mg base CX0 1 T.f_l_well T.d_l_well ["_law_cell"] spWell := by
  refine T.F_l_well.ok sc_l_well (fun vs H Q E h => ?_) (fun cdv A outer s H vs Q E hr h => ?_)
  · obtain ⟨c, rfl, _⟩ := h
    rfl
  · obtain ⟨c, rfl, q⟩ := h
    refine ⟨_, (pss_one (ps_ret (pe_lst (pa_cons (pe_op op_mul (pv 0) (pe_callTy call_int1 (by rfl) T.z_int (by decide +kernel) (pa_cons (pe_cmpR op_ge (pv 0) (pe_op op_pow pe_int pe_int) (nomark _)) pa_nil))) (pa_cons (pe_op op_mod (pv 0) pe_int) (pa_cons pe_int pa_nil)))))), ?_⟩
    refine ⟨_, rfl, _, rfl, _, _, rfl, rfl, ⟨by decide, by decide, by decide⟩, _, _, rfl, rfl, .inr ⟨_, rfl, _, _, rfl, rfl, ?_, _, rfl, _, _, rfl, rfl, (by show (0 : Int) < 2147483647; decide), ?_⟩⟩
    · right
      split <;> decide
    · refine ⟨by show 3 ≤ sizeLine; decide, fun p np => ?_⟩
      refine q p _ np (fun b o e => ?_) ⟨_, _, _, upd_same, Int.emod_nonneg _ (by decide), Int.emod_lt_of_pos _ (by decide), by decide, by decide⟩
      rw [hid_upd, hid_ne (ne_of_none e np)]
      exact e
def spDraw : Sp := fun vs H Q _ => ∃ (a : Addr) (m : Int) (n : Nat), vs = [.ref a, .int m] ∧ WellAt H a (n + 1) ∧ 0 < m ∧ m.natAbs.log2 < 9000 ∧
  ∀ d H', 0 ≤ d → d < m → Same (hid a H) (hid a H') → WellAt H' a n → Q (.int d) H'
theorem ok_l_draw (T : Txt K mg) : FnOk P w K mg base CX0 1 T.f_l_draw T.d_l_draw ["_law_well_here", "_law_many"] spDraw := by
  refine T.F_l_draw.ok sc_l_draw (fun vs H Q E h => ?_) (fun cdv A outer s H vs Q E hr h => ?_)
  · obtain ⟨a, m, n, rfl, _⟩ := h
    rfl
  · obtain ⟨a, m, n, rfl, ⟨w0, w1, w2, hw, b1, b2, b3, b4⟩, m0, ml, q⟩ := h
    refine ⟨_, (pss_cons (ps_if (pt_cmpR op_gt (pe_ix ix_list (pv 0) pe_int (fun _ _ => rfl)) pe_int (nomark _))
  (pss_cons (ps_set (i := 2) sc_l_draw.nd rfl (.inl rfl) (pe_op op_mod (pe_ix ix_list (pv 0) pe_int (fun _ _ => rfl)) (pv 1)))
 (pss_cons (ps_asg (pe_op op_fdivW (pe_ix ix_list (pv 0) pe_int (fun _ _ => rfl)) (pv 1)) (pg_sub (pv 0) pe_int set_list))
 (pss_one (ps_ret (pv 2)))))
  pss_nil)
 (pss_cons (ps_asg (pe_op op_add (pe_ix ix_list (pv 0) pe_int (fun _ _ => rfl)) pe_int) (pg_sub (pv 0) pe_int set_list))
 (pss_cons (ps_set (i := 3) sc_l_draw.nd rfl (.inl rfl) (pe_ix ix_list (pe_lst (pa_cons pe_int (pa_cons pe_int (pa_cons pe_int (pa_cons pe_int (pa_cons pe_int (pa_cons pe_int (pa_cons pe_int pa_nil)))))))) (pe_op op_mod (pe_ix ix_list (pv 0) pe_int (fun _ _ => rfl)) pe_int) (fun _ _ => rfl)))
 (pss_cons (ps_set (i := 4) sc_l_draw.nd rfl (.inl rfl) (pe_op op_mod (pe_op op_pow (pe_op op_add (pe_op op_add (pe_ix ix_list (pv 0) pe_int (fun _ _ => rfl)) (pe_op op_mul pe_int (pe_ix ix_list (pv 0) pe_int (fun _ _ => rfl)))) pe_int) pe_int) (pv 3)))
 (pss_cons (ps_set (i := 4) sc_l_draw.nd rfl (.inl rfl) (pe_op op_mod (pe_op op_mul (pe_op op_add (pv 4) (pe_ix ix_list (pv 0) pe_int (fun _ _ => rfl))) (pe_op op_add (pe_op op_fdiv (pv 4) pe_int) pe_int)) (pv 3)))
 (pss_one (ps_ret (pe_op op_mod (pe_op op_fdiv (pv 4) pe_int) (pv 1))))))))), ?_⟩
    refine ⟨_, rfl, a, _, _, _, rfl, rfl, SqL.of hw, atI_nat (j := 0) rfl, _, _, rfl, rfl, _, rfl, ite2 (fun h => ?_) (fun h => ?_)⟩
    · refine ⟨_, rfl, a, _, _, _, rfl, rfl, SqL.of hw, atI_nat (j := 0) rfl, _, rfl, _, _, rfl, rfl, m0, ?_⟩
      refine ⟨_, rfl, a, _, _, _, rfl, rfl, SqL.of hw, atI_nat (j := 0) rfl, _, rfl, _, _, rfl, rfl, ⟨m0, ml⟩, _, rfl, a, _, _, 0, rfl, rfl, hw, rfl, ?_⟩
      refine ⟨_, rfl, ?_⟩
      refine q _ _ (Int.emod_nonneg _ (by omega)) (Int.emod_lt_of_pos _ m0) ?_ ⟨_, _, _, upd_same, b1, b2, b3, by omega⟩
      rw [hid_upd]
      exact Same.refl _
    · refine ⟨_, rfl, a, _, _, _, rfl, rfl, SqL.of hw, atI_nat (j := 2) rfl, _, _, rfl, rfl, _, rfl, a, _, _, 2, rfl, rfl, hw, rfl, ?_⟩
      have hw2 : (upd H a (.lst [.int w0, .int w1, .int (w2 + 1)])) a = some (.lst [.int w0, .int w1, .int (w2 + 1)]) := upd_same
      refine ⟨by show 7 ≤ sizeLine; decide, fun p np => ?_⟩
      have npa : p ≠ a := fun z => by
        rw [z, upd_same] at np
        cases np
      have hw3 : (upd (upd H a (.lst [.int w0, .int w1, .int (w2 + 1)])) p (.lst [V.int 2147483647, V.int 2147483629, V.int 2147483587, V.int 2147483579, V.int 2147483563, V.int 2147483549, V.int 2147483543])) a = some (.lst [.int w0, .int w1, .int (w2 + 1)]) := by
        rw [upd_ne npa.symm]
        exact upd_same
      obtain ⟨pr, hpr, p0, p1⟩ := primes7 (k := (w2 + 1) % 7) (Int.emod_nonneg _ (by decide)) (Int.emod_lt_of_pos _ (by decide))
      refine ⟨_, rfl, a, _, _, _, rfl, rfl, SqL.of hw3, atI_nat (j := 2) rfl, _, _, rfl, rfl, (by show (0 : Int) < 7; decide), p, _, _, _, rfl, rfl, sqL_new, hpr, ?_⟩
      refine ⟨_, rfl, a, _, _, _, rfl, rfl, SqL.of hw3, atI_nat (j := 1) rfl, _, rfl, a, _, _, _, rfl, rfl, SqL.of hw3, atI_nat (j := 2) rfl, _, _, rfl, rfl, .inl ⟨by decide, by decide⟩, _, _, rfl, rfl, _, _, rfl, rfl, _, _, rfl, rfl, ?_, _, rfl, _, _, rfl, rfl, p0, ?_⟩
      · exact pow_small (by omega) (by omega)
      · generalize hx : (w1 + 7919 * (w2 + 1) + 1) ^ (5 : Int).toNat % pr = x
        have x0 : 0 ≤ x := by
          rw [← hx]
          exact Int.emod_nonneg _ (by omega)
        have x1 : x < pr := by
          rw [← hx]
          exact Int.emod_lt_of_pos _ p0
        refine ⟨_, rfl, _, rfl, a, _, _, _, rfl, rfl, SqL.of hw3, atI_nat (j := 2) rfl, _, _, rfl, rfl, _, rfl, _, _, rfl, rfl, ⟨by decide, by decide⟩, _, _, rfl, rfl, _, _, rfl, rfl, .inl ⟨by omega, by omega⟩, _, rfl, _, _, rfl, rfl, p0, ?_⟩
        refine ⟨_, rfl, _, _, rfl, rfl, ⟨by decide, by decide⟩, _, rfl, _, _, rfl, rfl, m0, ?_⟩
        refine q _ _ (Int.emod_nonneg _ (by omega)) (Int.emod_lt_of_pos _ m0) ?_ ⟨_, _, _, hw3, b1, b2, by omega, by omega⟩
        rw [hid_updN npa, hid_upd]
        refine same_upd ?_
        rw [hid_ne npa]
        rw [upd_ne npa] at np
        exact np
def spOne (K : PySem.W.Frag) : Sp := fun vs H Q _ => ∃ (a p : Addr) (xs : List V) (n : Nat), vs = [.ref a, .ref p] ∧ WellAt H a (n + 1) ∧ SqL K (hid a H) p xs ∧ 0 < xs.length ∧ xs.length ≤ 1000 ∧
  ∀ (i : Nat) x H', xs[i]? = some x → Same (hid a H) (hid a H') → WellAt H' a n → Q x H'
theorem log_small {m : Nat} (h : m ≤ 1000) : ((m : Int)).natAbs.log2 < 9000 := by
  have h1 : ((m : Int)).natAbs.log2 ≤ (1000 : Nat).log2 := log2_mono (by omega)
  have h2 : (1000 : Nat).log2 < 9000 := by decide
  omega
theorem ok_l_one (T : Txt K mg) : FnOk P w K mg base CX0 2 T.f_l_one T.d_l_one ["_law_well_here", "_law_some"] (spOne K) := by
  refine T.F_l_one.ok sc_l_one (fun vs H Q E h => ?_) (fun cdv A outer s H vs Q E hr h => ?_)
  · obtain ⟨a, p, xs, n, rfl, _⟩ := h
    rfl
  · obtain ⟨a, p, xs, n, rfl, hw, hS, l0, l1, q⟩ := h
    refine ⟨_, (pss_one (ps_ret (pe_ix ix_list (pv 1) (pe_call (ok_l_draw T) (hr.mono (by decide)) (by rfl) T.g_l_draw T.F_l_draw.kp T.b_l_draw .nil pass0 (pa_cons (pv 0) (pa_cons (pe_callB call_len_seq (by rfl) T.z_len (by decide +kernel) (pa_cons (pv 1) pa_nil)) pa_nil))) (fun _ _ => rfl)))), ?_⟩
    refine ⟨_, rfl, _, rfl, _, rfl, p, xs, rfl, .inl (hid_same.seq hS), a, _, n, rfl, hw, by omega, log_small l1, fun d H' d0 d1 s1 w1 => ?_⟩
    obtain ⟨x, e1, e2⟩ := atI_get d0 d1
    exact ⟨p, xs, d, x, rfl, rfl, (s1.trans hid_same).seq hS, e1, q _ x H' e2 s1 w1⟩
end

end Fb

namespace Fb
open PySem PySem.Spec PyProof.Rows L2
section
variable {P : Program} {w : World} {K : PySem.W.Frag} {mg : Str → Option Value} {base : Heap}
/-! ### names -/
def letters : List Nat := ("abcdefghijklmnopqrstuvwxyz" : Str).cps.toList
structure NmOk (x : Str) : Prop where
  l1 : 1 ≤ x.length
  l8 : x.length ≤ 8
  all : ∀ c ∈ x.cps.toList, c ∈ letters
def spName : Sp := fun vs H Q _ => ∃ x : Str, vs = [.str x] ∧ NmOk x ∧ ∀ H', Same H H' → Q (.bl true) H'
theorem ok_p_is_name (T : Txt K mg) : FnOk P w K mg base CX0 1 T.f_p_is_name T.d_p_is_name ["thing"] spName := by
  refine T.F_p_is_name.ok sc_p_is_name (fun vs H Q E h => ?_) (fun cdv A outer s H vs Q E hr h => ?_)
  · obtain ⟨x, rfl, _⟩ := h
    rfl
  · obtain ⟨x, rfl, ok, q⟩ := h
    refine ⟨_, (pss_cons (ps_if (PW.pt (pw_or (pt_not (pt_val (pe_callB call_isi (by rfl) T.z_isinstance (by decide +kernel) (pa_cons (pv 0) (pa_cons (pe_bltn (v := .ty "str") (by rfl) T.z_str (by decide +kernel) rfl) pa_nil))))) (pw_or1 (pt_not (pt_chain op_le op_le pe_int (pe_callB call_len_str (by rfl) T.z_len (by decide +kernel) (pa_cons (pv 0) pa_nil)) (pe_glob (by rfl) T.g_LONGEST_NAME T.r_LONGEST_NAME))))))
  (pss_one (ps_ret pe_bl))
  pss_nil)
 (pss_one (ps_ret (pe_callB (cr_all rfl) (by rfl) T.z_all (by decide +kernel) (pa_cons (pe_lc (own := [("letter", 1)]) (g := (gName 1)) (tt := tYes) (by rfl) sc_p_is_name.nd (pi_str (pv 0)) (blkOk_by (own := [("letter", 1)]) (N := ["thing", "letter"]) (sc := defScope s_p_is_name) (by decide +kernel)) (fun _ _ _ _ _ => by exact (pg_name (i := 1) sc_p_is_name.nd rfl (.inl rfl))) (fun _ _ _ _ _ => by exact pts_nil) (fun _ _ _ _ _ => by exact (pe_cmpR op_in_sign (pv 1) (pe_glob (by rfl) T.g_LETTERS T.r_LETTERS) (by with_unfolding_all rfl)))) pa_nil))))), ?_⟩
    have l8 := ok.l8
    have l1 := ok.l1
    refine ⟨_, rfl, _, _, _, _, true, rfl, .ty _, .base (.str x), kit_ty (by decide +kernel), true, rfl, iteF ?_⟩
    refine ⟨_, rfl, x, rfl, Nat.le_of_lt (small1000 (by omega)), _, _, rfl, rfl, true, ?_, iteT ?_⟩
    · exact congrArg V.bl (decide_eq_true (by omega))
    refine ⟨_, _, rfl, rfl, true, ?_, iteF ?_⟩
    · exact congrArg V.bl (decide_eq_true (by omega))
    have hz : x.cps.size ≤ 8 := l8
    refine ⟨_, rfl, x, rfl, fun D nD => lc_allW (walk_str (z := x)) (fun _ y _ => y = .bl true) (fun _ _ _ _ _ h => h) nD (fun _ _ => trivial) (by omega) (fun i v H2 H3 k hi s2 eD y hk => ?_) (fun H2 ys s2 e l r => ?_)⟩
    · obtain ⟨rfl, c, hc, rfl⟩ := y
      refine ⟨rfl, _, rfl, c, _, rfl, rfl, hk _ _ (Same.refl _) (congrArg V.bl (decide_eq_true ?_))⟩
      exact ok.all c (by rw [← Array.getElem?_toList] at hc; exact List.mem_of_getElem? hc)
    · have ey : ys = (List.replicate ys.length true).map V.bl := by
        refine List.ext_getElem? fun i => ?_
        by_cases hi : i < ys.length
        · rw [List.getElem?_eq_getElem hi, r i _ (List.getElem?_eq_getElem hi), List.getElem?_map, List.getElem?_replicate, if_pos hi]
          rfl
        · rw [List.getElem?_eq_none (by omega), List.getElem?_eq_none (by simp; omega)]
      rw [ey] at e
      refine ⟨D, _, rfl, SqL.of e, ?_⟩
      rw [show (List.replicate ys.length true).all id = true by simp]
      exact q H2 (s2.trans hid_same)
/-! ### steps -/
structure Stp where
  room : Nat
  sign : Str
  ws : List Nat
abbrev nts (ns : List Nat) : List V := ns.map fun (n : Nat) => V.int (n : Int)
def IsStp (H : Hp) (v : V) (s : Stp) : Prop := ∃ t wa, v = .ref t ∧ H t = some (.tup [.int s.room, .str s.sign, .ref wa]) ∧ H wa = some (.tup (nts s.ws))
theorem IsStp.mono {H H' : Hp} {v : V} {s : Stp} (h : IsStp H v s) (m : Same H H') : IsStp H' v s := by
  obtain ⟨t, wa, e, h1, h2⟩ := h
  exact ⟨t, wa, e, m _ _ h1, m _ _ h2⟩
structure WtsOk (m : Nat) (ws : List Nat) : Prop where
  len : ws.length = m
  pos : ∃ n ∈ ws, 0 < n
  bd : ∀ n ∈ ws, n < 2 ^ 4000
structure StpOk (m : Nat) (s : Stp) : Prop where
  room : s.room < m
  sign : NmOk s.sign
  wts : WtsOk m s.ws
def spRoom : Sp := fun vs H Q _ => ∃ r m : Nat, vs = [.int r, .int m] ∧ r < m ∧ Q (.bl true) H
theorem ok_p_is_room (T : Txt K mg) : FnOk P w K mg base CX0 2 T.f_p_is_room T.d_p_is_room ["thing", "many"] spRoom := by
  refine T.F_p_is_room.ok sc_p_is_room (fun vs H Q E h => ?_) (fun cdv A outer s H vs Q E hr h => ?_)
  · obtain ⟨r, m, rfl, _⟩ := h
    rfl
  · obtain ⟨r, m, rfl, l, q⟩ := h
    refine ⟨_, (pss_one (ps_ret (pe_and (pe_call (ok_p_is_whole T) (hr.mono (by decide)) (by rfl) T.g_p_is_whole T.F_p_is_whole.kp T.b_p_is_whole .nil pass0 (pa_cons (pv 0) pa_nil)) (pe_one (pe_chain op_le op_lt pe_int (pv 0) (pv 1)))))), ?_⟩
    refine ⟨_, rfl, r, rfl, true, rfl, iteT ?_⟩
    refine ⟨_, rfl, _, _, rfl, rfl, true, congrArg V.bl (decide_eq_true (by omega)), iteT ⟨_, rfl, _, _, rfl, rfl, ?_⟩⟩
    dsimp only
    rw [decide_eq_true (show (r : Int) < (m : Int) by omega)]
    exact q
theorem trues {n : Nat} {ys : List V} (l : ys.length = n) (h : ∀ (i : Nat) y, ys[i]? = some y → y = .bl true) : ys = (List.replicate n true).map V.bl := by
  refine List.ext_getElem? fun i => ?_
  by_cases hi : i < ys.length
  · rw [List.getElem?_eq_getElem hi, h i _ (List.getElem?_eq_getElem hi), List.getElem?_map, List.getElem?_replicate, if_pos (by omega)]
    rfl
  · rw [List.getElem?_eq_none (by omega), List.getElem?_eq_none (by simp; omega)]
theorem all_trues (n : Nat) : (List.replicate n true).all id = true := by simp
def spWts : Sp := fun vs H Q _ => ∃ (wa : Addr) (m : Nat) (ws : List Nat), vs = [.ref wa, .int m] ∧ H wa = some (.tup (nts ws)) ∧ WtsOk m ws ∧ m ≤ 12 ∧ ∀ H', Same H H' → Q (.bl true) H'
theorem ok_p_are_weights (T : Txt K mg) : FnOk P w K mg base CX0 2 T.f_p_are_weights T.d_p_are_weights ["thing", "many"] spWts := by
  refine T.F_p_are_weights.ok sc_p_are_weights (fun vs H Q E h => ?_) (fun cdv A outer s H vs Q E hr h => ?_)
  · obtain ⟨wa, m, ws, rfl, _⟩ := h
    rfl
  · obtain ⟨wa, m, ws, rfl, hw, ok, m12, q⟩ := h
    refine ⟨_, (pss_cons (ps_if (PW.pt (pw_or (pt_not (pt_val (pe_callB call_isi (by rfl) T.z_isinstance (by decide +kernel) (pa_cons (pv 0) (pa_cons (pe_bltn (v := .ty "tuple") (by rfl) T.z_tuple (by decide +kernel) rfl) pa_nil))))) (pw_or1 (pt_cmpR op_ne (pe_callB call_len_seq (by rfl) T.z_len (by decide +kernel) (pa_cons (pv 0) pa_nil)) (pv 1) (nomark _)))))
  (pss_one (ps_ret pe_bl))
  pss_nil)
 (pss_one (ps_ret (pe_and (pe_callB (cr_all rfl) (by rfl) T.z_all (by decide +kernel) (pa_cons (pe_lc (own := [("weight", 2)]) (g := (gName 2)) (tt := tYes) (by rfl) sc_p_are_weights.nd (pi_tup (pv 0)) (blkOk_by (own := [("weight", 2)]) (N := ["thing", "many", "weight"]) (sc := defScope s_p_are_weights) (by decide +kernel)) (fun _ _ _ _ _ => by exact (pg_name (i := 2) sc_p_are_weights.nd rfl (.inl rfl))) (fun _ _ _ _ _ => by exact pts_nil) (fun _ _ _ _ _ => by exact (pe_and (pe_call (ok_p_is_whole T) (hr.mono (by decide)) (by rfl) T.g_p_is_whole T.F_p_is_whole.kp T.b_p_is_whole .nil pass0 (pa_cons (pv 2) pa_nil)) (pe_one (pe_cmpR op_ge (pv 2) pe_int (nomark _)))))) pa_nil)) (pe_one (pe_callB (cr_any rfl) (by rfl) T.z_any (by decide +kernel) (pa_cons (pe_lc (own := [("weight", 2)]) (g := (gName 2)) (tt := tYes) (by rfl) sc_p_are_weights.nd (pi_tup (pv 0)) (blkOk_by (own := [("weight", 2)]) (N := ["thing", "many", "weight"]) (sc := defScope s_p_are_weights) (by decide +kernel)) (fun _ _ _ _ _ => by exact (pg_name (i := 2) sc_p_are_weights.nd rfl (.inl rfl))) (fun _ _ _ _ _ => by exact pts_nil) (fun _ _ _ _ _ => by exact (pe_cmpR op_gt (pv 2) pe_int (nomark _)))) pa_nil))))))), ?_⟩
    have lw : (nts ws).length = m := by rw [List.length_map]; exact ok.len
    refine ⟨_, rfl, _, _, _, _, true, rfl, .ty _, .base (.tup hw), kit_ty (by decide +kernel), true, rfl, iteF ?_⟩
    refine ⟨_, rfl, wa, _, rfl, .inr (.inl (.inl hw)), _, rfl, rfl, _, rfl, ?_⟩
    rw [lw, decide_eq_true rfl]
    refine iteF ?_
    refine ⟨_, rfl, wa, rfl, ⟨_, .inl (.inl hw)⟩, fun D nD => lc_allW (walk_tup (K := K) (a := wa) (xs := nts ws)) (fun _ y _ => y = .bl true) (fun _ _ _ _ _ h => h) nD (fun H' s => .inl (.inl (s _ _ hw))) (by omega) (fun i v H2 H3 k hi s2 eD y hk => ?_) (fun H2 ys s2 e l r => ?_)⟩
    · obtain ⟨rfl, hv⟩ := y
      rw [List.getElem?_map] at hv
      obtain ⟨n, hn, rfl⟩ := Option.map_eq_some_iff.mp hv
      exact ⟨rfl, _, rfl, (n : Int), rfl, true, rfl, iteT ⟨_, rfl, _, _, rfl, rfl, hk _ _ (Same.refl _) (congrArg V.bl (decide_eq_true (by omega)))⟩⟩
    · rw [trues l r] at e
      refine ⟨D, _, rfl, SqL.of e, true, by rw [all_trues], iteT ?_⟩
      have s12 : Same H H2 := s2.trans hid_same
      have hw2 := s12 _ _ hw
      refine ⟨_, rfl, wa, rfl, ⟨_, .inl (.inl hw2)⟩, fun D2 nD2 => lc_allW (walk_tup (K := K) (a := wa) (xs := nts ws)) (fun i y _ => ∃ n, ws[i]? = some n ∧ y = .bl (decide (0 < n))) (fun _ _ _ _ _ h => h) nD2 (fun H' s => .inl (.inl (s _ _ hw2))) (by omega) (fun i v H3 H4 k hi s3 eD y hk => ?_) (fun H3 ys3 s3 e3 l3 r3 => ?_)⟩
      · obtain ⟨rfl, hv⟩ := y
        rw [List.getElem?_map] at hv
        obtain ⟨n, hn, rfl⟩ := Option.map_eq_some_iff.mp hv
        refine ⟨rfl, _, rfl, _, _, rfl, rfl, hk _ _ (Same.refl _) ⟨n, hn, congrArg V.bl (decide_eq_decide.mpr ?_)⟩⟩
        show (n : Int) > 0 ↔ 0 < n
        omega
      · have ey : ys3 = (ws.map fun n => decide (0 < n)).map V.bl := by
          refine List.ext_getElem? fun i => ?_
          by_cases hi : i < ys3.length
          · obtain ⟨n, hn, hy⟩ := r3 i _ (List.getElem?_eq_getElem hi)
            rw [List.getElem?_eq_getElem hi, hy, List.map_map, List.getElem?_map, hn]
            rfl
          · rw [List.getElem?_eq_none (by omega), List.getElem?_eq_none (by rw [List.length_map] at l3; simp; omega)]
        rw [ey] at e3
        refine ⟨D2, _, rfl, SqL.of e3, ?_⟩
        have : (ws.map fun n => decide (0 < n)).any id = true := by
          obtain ⟨n, hn, h0⟩ := ok.pos
          rw [List.any_eq_true]
          exact ⟨true, List.mem_map.mpr ⟨n, hn, decide_eq_true h0⟩, rfl⟩
        rw [this]
        exact q H3 (s12.trans (s3.trans hid_same))
def spStep : Sp := fun vs H Q _ => ∃ (v : V) (m : Nat) (s : Stp), vs = [v, .int m] ∧ IsStp H v s ∧ StpOk m s ∧ m ≤ 12 ∧ ∀ H', Same H H' → Q (.bl true) H'
theorem ok_p_is_step (T : Txt K mg) : FnOk P w K mg base CX0 3 T.f_p_is_step T.d_p_is_step ["thing", "many"] spStep := by
  refine T.F_p_is_step.ok sc_p_is_step (fun vs H Q E h => ?_) (fun cdv A outer s H vs Q E hr h => ?_)
  · obtain ⟨v, m, st, rfl, _⟩ := h
    rfl
  · obtain ⟨v, m, st, rfl, ⟨t, wa, rfl, ht, hw⟩, ok, m12, q⟩ := h
    refine ⟨_, (pss_cons (ps_if (PW.pt (pw_or (pt_not (pt_val (pe_callB call_isi (by rfl) T.z_isinstance (by decide +kernel) (pa_cons (pv 0) (pa_cons (pe_bltn (v := .ty "tuple") (by rfl) T.z_tuple (by decide +kernel) rfl) pa_nil))))) (pw_or1 (pt_cmpR op_ne (pe_callB call_len_seq (by rfl) T.z_len (by decide +kernel) (pa_cons (pv 0) pa_nil)) pe_int (nomark _)))))
  (pss_one (ps_ret pe_bl))
  pss_nil)
 (pss_cons (ps_asg (pv 0) (pg_tup (by rfl) (pgs_cons (pg_name (i := 2) sc_p_is_step.nd rfl (.inl rfl)) (pgs_cons (pg_name (i := 3) sc_p_is_step.nd rfl (.inl rfl)) (pgs_cons (pg_name (i := 4) sc_p_is_step.nd rfl (.inl rfl)) pgs_nil)))))
 (pss_one (ps_ret (pe_and (pe_call (ok_p_is_room T) (hr.mono (by decide)) (by rfl) T.g_p_is_room T.F_p_is_room.kp T.b_p_is_room .nil pass0 (pa_cons (pv 2) (pa_cons (pv 1) pa_nil))) (pe_and (pe_call (ok_p_is_name T) (hr.mono (by decide)) (by rfl) T.g_p_is_name T.F_p_is_name.kp T.b_p_is_name .nil pass0 (pa_cons (pv 3) pa_nil)) (pe_one (pe_call (ok_p_are_weights T) (hr.mono (by decide)) (by rfl) T.g_p_are_weights T.F_p_are_weights.kp T.b_p_are_weights .nil pass0 (pa_cons (pv 4) (pa_cons (pv 1) pa_nil)))))))))), ?_⟩
    refine ⟨_, rfl, _, _, _, _, true, rfl, .ty _, .base (.tup ht), kit_ty (by decide +kernel), true, rfl, iteF ?_⟩
    refine ⟨_, rfl, t, _, rfl, .inr (.inl (.inl ht)), rfl, _, rfl, iteF ?_⟩
    refine ⟨_, rfl, t, _, rfl, .inl (.inl ht), rfl, _, _, rfl, _, _, rfl, _, _, rfl, rfl, ?_⟩
    refine ⟨_, rfl, _, rfl, st.room, m, rfl, ok.room, true, rfl, iteT ?_⟩
    refine ⟨_, rfl, st.sign, rfl, ok.sign, fun H1 s1 => ⟨true, rfl, iteT ?_⟩⟩
    exact ⟨_, rfl, _, rfl, wa, m, st.ws, rfl, s1 _ _ hw, ok.wts, m12, fun H2 s2 => q H2 (s1.trans s2)⟩
end

end Fb

namespace Fb
open PySem PySem.Spec PyProof.Rows L2
section
variable {P : Program} {w : World} {K : PySem.W.Frag} {mg : Str → Option Value} {base : Heap}
/-! ### are_steps, of good ones -/
abbrev Stp.key (s : Stp) : RS := ((s.room : Int), s.sign)
structure StpsOk (m : Nat) (ss : List Stp) : Prop where
  m1 : 1 ≤ m
  m12 : m ≤ 12
  few : ss.length < 60
  all : ∀ s ∈ ss, StpOk m s
  once : (ss.map Stp.key).Nodup
def kKey (k : RS) : List Key := [.inl k.1, .inr k.2]
theorem kKey_inj {a b : RS} (h : kKey a = kKey b) : a = b := by
  unfold kKey at h
  simp only [List.cons.injEq, Sum.inl.injEq, Sum.inr.injEq, and_true] at h
  exact Prod.ext h.1 h.2
def IsStps (H : Hp) (v : V) (ss : List Stp) : Prop := ∃ p vs, v = .ref p ∧ H p = some (.lst vs) ∧ AllAre (IsStp H) vs ss
theorem IsStps.mono {H H' : Hp} {v : V} {ss : List Stp} (h : IsStps H v ss) (m : Same H H') : IsStps H' v ss := by
  obtain ⟨p, vs, e, h, a⟩ := h
  exact ⟨p, vs, e, m _ _ h, a.imp fun _ _ r => r.mono m⟩
def spSteps : Sp := fun vs H Q _ => ∃ (v : V) (m : Nat) (ss : List Stp), vs = [v, .int m] ∧ IsStps H v ss ∧ StpsOk m ss ∧ ∀ H', Same H H' → Q (.bl true) H'
theorem ok_p_are_steps (T : Txt K mg) : FnOk P w K mg base CX0 4 T.f_p_are_steps T.d_p_are_steps ["thing", "many"] spSteps := by
  refine T.F_p_are_steps.ok sc_p_are_steps (fun vs H Q E h => ?_) (fun cdv A outer s H vs Q E hr h => ?_)
  · obtain ⟨v, m, ss, rfl, _⟩ := h
    rfl
  · obtain ⟨v, m, ss, rfl, ⟨p, xs, rfl, hp, aa⟩, ok, q⟩ := h
    refine ⟨_, (pss_cons (ps_if (PW.pt (pw_or (pt_not (pt_val (pe_callB call_isi (by rfl) T.z_isinstance (by decide +kernel) (pa_cons (pv 0) (pa_cons (pe_bltn (v := .ty "list") (by rfl) T.z_list (by decide +kernel) rfl) pa_nil))))) (pw_or1 (pt_not (pt_val (pe_callB (cr_all rfl) (by rfl) T.z_all (by decide +kernel) (pa_cons (pe_lc (own := [("step", 2)]) (g := (gName 2)) (tt := tYes) (by rfl) sc_p_are_steps.nd (pi_list (pv 0)) (blkOk_by (own := [("step", 2)]) (N := ["thing", "many", "step", "room", "sign", "weights"]) (sc := defScope s_p_are_steps) (by decide +kernel)) (fun _ _ _ _ _ => by exact (pg_name (i := 2) sc_p_are_steps.nd rfl (.inl rfl))) (fun _ _ _ _ _ => by exact pts_nil) (fun _ _ _ _ _ => by exact (pe_call (ok_p_is_step T) (hr.mono (by decide)) (by rfl) T.g_p_is_step T.F_p_is_step.kp T.b_p_is_step .nil pass0 (pa_cons (pv 2) (pa_cons (pv 1) pa_nil))))) pa_nil)))))))
  (pss_one (ps_ret pe_bl))
  pss_nil)
 (pss_one (ps_ret (pe_cmpR op_eq (pe_callB call_lenM (by rfl) T.z_len (by decide +kernel) (pa_cons (pe_scM (units1 hr.units) (own := [("room", 3), ("sign", 4), ("weights", 5)]) (g := (gTup K 3 (gCons (gName 3) (gCons (gName 4) (gCons (gName 5) gNil))))) (tt := tYes) (by rfl) sc_p_are_steps.nd (pi_list (pv 0)) (blkOk_by (own := [("room", 3), ("sign", 4), ("weights", 5)]) (N := ["thing", "many", "step", "room", "sign", "weights"]) (sc := defScope s_p_are_steps) (by decide +kernel)) (fun _ _ _ _ _ => by exact (pg_tup (by rfl) (pgs_cons (pg_name (i := 3) sc_p_are_steps.nd rfl (.inl rfl)) (pgs_cons (pg_name (i := 4) sc_p_are_steps.nd rfl (.inl rfl)) (pgs_cons (pg_name (i := 5) sc_p_are_steps.nd rfl (.inl rfl)) pgs_nil))))) (fun _ _ _ _ _ => by exact pts_nil) (fun _ _ _ _ _ => by exact (pe_tup (pa_cons (pv 3) (pa_cons (pv 4) pa_nil))))) pa_nil)) (pe_callB call_len_seq (by rfl) T.z_len (by decide +kernel) (pa_cons (pv 0) pa_nil)) (nomark _))))), ?_⟩
    have few := ok.few
    refine ⟨_, rfl, _, _, _, _, true, rfl, .ty _, .base (.lst hp), kit_ty (by decide +kernel), true, rfl, iteF ?_⟩
    refine ⟨_, rfl, p, rfl, ⟨_, SqL.of hp⟩, fun D nD => lc_all (K := K) (a := p) (xs := xs) (fun _ y _ => y = .bl true) (fun _ _ _ _ _ h => h) nD (SqL.of hp) (by rw [aa.1]; omega) (fun i x H2 k hi s2 eD hk => ?_) (fun H2 ys s2 e l r => ?_)⟩
    · obtain ⟨st, hst, hx⟩ := aa.at hi
      exact ⟨rfl, _, rfl, _, rfl, x, m, st, rfl, hx.mono (s2.trans hid_same), ok.all st (List.mem_of_getElem? hst), ok.m12, fun H3 s3 => hk _ _ s3 rfl⟩
    · rw [trues l r] at e
      refine ⟨D, _, rfl, SqL.of e, true, by rw [all_trues], iteF ?_⟩
      have s12 : Same H H2 := s2.trans hid_same
      have hp2 := s12 _ _ hp
      have aa2 : AllAre (IsStp H2) xs ss := aa.imp fun _ _ h => h.mono s12
      refine ⟨_, rfl, p, rfl, ⟨_, SqL.of hp2⟩, fun D2 nD2 => ?_⟩
      -- the set of rooms and signs
      have nk : (ss.map fun s => kKey s.key).Nodup := by
        have e : (ss.map fun s => kKey s.key) = (ss.map Stp.key).map kKey := by rw [List.map_map]; rfl
        rw [e]
        exact List.pairwise_map.mpr (ok.once.imp fun h z => h (kKey_inj z))
      let Pv : Nat → Hp → Prop := fun i H' => ∃ L : Keyed, Same H2 (hid D2 H') ∧ H' D2 = some (MSetO P w D2 L) ∧ L.length = i ∧ (∀ q ∈ L, hid D2 H' q.1 = some (.tup (q.2.map kV))) ∧ ∀ q ∈ L, q.2 ∈ (ss.take i).map fun s => kKey s.key
      have start : Pv 0 (upd H2 D2 (MSetO P w D2 [])) := by
        refine ⟨[], fun b o eb => ?_, upd_same, rfl, (fun q h => by cases h), (fun q h => by cases h)⟩
        rw [hid_ne (ne_of_none eb nD2), upd_ne (ne_of_none eb nD2)]
        exact eb
      refine ⟨fun i mm H' => mm = xs.length - i ∧ i ≤ xs.length ∧ Pv i H', ⟨xs.length, by simp, Nat.zero_le _, start⟩, ?_⟩
      rintro i mm H' ⟨rfl, hi, pv⟩
      obtain ⟨L, sL, eL, lL, tL, kL⟩ := id pv
      have sH : Same H2 H' := sL.trans hid_same
      have sq : SqL K H' p xs := sH.seq (SqL.of hp2)
      by_cases hlt : i < xs.length
      · refine .inr ⟨⟨xs, xs[i], sq, List.getElem?_eq_getElem hlt⟩, Pv (i + 1), fun H'' p' => ⟨xs.length - (i + 1), by omega, rfl, hlt, p'⟩, fun x H'' y => ?_⟩
        obtain ⟨rfl, y⟩ := y
        have hx := y xs sq
        obtain ⟨st, hst, t, wa, rfl, ht, hw⟩ := aa2.at hx
        have ht' := sH _ _ ht
        refine ⟨t, _, rfl, .inl (.inl ht'), rfl, _, _, rfl, _, _, rfl, _, _, rfl, rfl, rfl, ?_⟩
        refine ⟨_, rfl, _, rfl, by show 2 ≤ sizeLine; decide, fun c nc => ?_⟩
        have sc := same_upd (o := .tup [.int st.room, .str st.sign]) nc
        have cD : c ≠ D2 := fun z => by
          rw [z, eL] at nc
          cases nc
        refine ⟨c, kKey st.key, L, rfl, upd_same, sc _ _ eL, fun q hq => sc _ _ (hid_same _ _ (tL q hq)), by rw [aa.1] at hlt; omega, fun L' _ new => ?_⟩
        have out : kKey st.key ∉ L.map (·.2) := fun hm => by
          obtain ⟨q, hq, e⟩ := List.mem_map.mp hm
          obtain ⟨s', hs', e'⟩ := List.mem_map.mp (kL q hq)
          obtain ⟨j, hj, ej⟩ := List.mem_iff_getElem.mp hs'
          rw [List.length_take] at hj
          rw [List.getElem_take] at ej
          have g1 : (ss.map fun s => kKey s.key)[j]? = some (kKey st.key) := by
            rw [List.getElem?_map, List.getElem?_eq_getElem (by omega), ej]
            show some (kKey s'.key) = _
            rw [e', e]
          have g2 : (ss.map fun s => kKey s.key)[i]? = some (kKey st.key) := by rw [List.getElem?_map, hst]; rfl
          have := nodup_inj nk g1 g2
          omega
        have pm := new out
        refine ⟨L', ?_, upd_same, by rw [pm.length_eq, List.length_cons, lL], fun q hq => ?_, fun q hq => ?_⟩
        · rw [hid_upd]
          exact sL.trans (hid_mono sc)
        · rw [hid_upd]
          rcases List.mem_cons.mp (pm.mem_iff.mp hq) with rfl | hq
          · rw [hid_ne cD]
            exact upd_same
          · exact hid_mono sc _ _ (tL q hq)
        · rw [List.take_add_one, hst, List.map_append]
          rcases List.mem_cons.mp (pm.mem_iff.mp hq) with rfl | hq
          · exact List.mem_append_right _ (by simp)
          · exact List.mem_append_left _ (kL q hq)
      · have ei : i = xs.length := by omega
        subst ei
        refine .inl ⟨⟨xs, sq, Nat.le_refl _⟩, ?_⟩
        refine ⟨D2, L, rfl, eL, _, rfl, p, xs, rfl, .inl sq, rfl, ?_⟩
        rw [decide_eq_true (show V.int (L.length : Int) = V.int (xs.length : Int) by rw [lL])]
        exact q H' (s12.trans sH)
/-! ### lowest -/
def gcdL : List Nat → Nat
  | [] => 0
  | n :: r => Nat.gcd n (gcdL r)
def gcdF (g : Nat) : List Nat → Nat
  | [] => g
  | n :: r => gcdF (Nat.gcd n g) r
theorem gcdF_snoc (n : Nat) : ∀ (l : List Nat) (g : Nat), gcdF g (l ++ [n]) = Nat.gcd n (gcdF g l)
  | [], _ => rfl
  | _ :: l, _ => gcdF_snoc n l _
theorem gcdF_dvd : ∀ (l : List Nat) (g : Nat), gcdF g l ∣ g ∧ ∀ n ∈ l, gcdF g l ∣ n
  | [], g => ⟨Nat.dvd_refl _, fun n h => by cases h⟩
  | x :: l, g => by
    obtain ⟨h1, h2⟩ := gcdF_dvd l (Nat.gcd x g)
    refine ⟨Nat.dvd_trans h1 (Nat.gcd_dvd_right _ _), fun n hn => ?_⟩
    rcases List.mem_cons.mp hn with rfl | hn
    · exact Nat.dvd_trans h1 (Nat.gcd_dvd_left _ _)
    · exact h2 n hn
theorem gcdF_pos {l : List Nat} {g : Nat} (h : ∃ n ∈ l, 0 < n) : 0 < gcdF g l := by
  obtain ⟨n, hn, h0⟩ := h
  exact Nat.pos_of_dvd_of_pos ((gcdF_dvd l g).2 n hn) h0
def low (ws : List Nat) : List Nat := ws.map (· / gcdF 0 ws)
def spLowest : Sp := fun vs H Q _ => ∃ (wa : Addr) (ws : List Nat), vs = [.ref wa] ∧ H wa = some (.tup (nts ws)) ∧ (∃ n ∈ ws, 0 < n) ∧ (∀ n ∈ ws, n < 2 ^ 4000) ∧ ws.length ≤ 900 ∧ ∀ H' r, Same H H' → H' r = some (.tup (nts (low ws))) → Q (.ref r) H'
theorem ok_p_lowest (T : Txt K mg) : FnOk P w K mg base CX0 2 T.f_p_lowest T.d_p_lowest ["weights"] spLowest := by
  refine T.F_p_lowest.ok sc_p_lowest (fun vs H Q E h => ?_) (fun cdv A outer s H vs Q E hr h => ?_)
  · obtain ⟨wa, ws, rfl, _⟩ := h
    rfl
  · obtain ⟨wa, ws, rfl, hw, pos, bd, l9, q⟩ := h
    refine ⟨_, (pss_cons (ps_set (i := 1) sc_p_lowest.nd rfl (.inr rfl) pe_int)
 (pss_cons (ps_for PassesOwn.never rfl (pi_tup (pv 0)) (pg_name (i := 2) sc_p_lowest.nd rfl (.inl rfl))
  (pss_one (ps_set (i := 1) sc_p_lowest.nd rfl (.inr rfl) (pe_call (ok_p_common_part T) (hr.mono (by decide)) (by rfl) T.g_p_common_part T.F_p_common_part.kp T.b_p_common_part .nil pass0 (pa_cons (pv 2) (pa_cons (pv 1) pa_nil))))))
 (pss_one (ps_ret (pe_callTy call_tuple_of (by rfl) T.z_tuple (by decide +kernel) (pa_cons (pe_lc (own := [("weight", 2)]) (g := (gName 2)) (tt := tYes) (by rfl) sc_p_lowest.nd (pi_tup (pv 0)) (blkOk_by (own := [("weight", 2)]) (N := ["weights", "common", "weight"]) (sc := defScope s_p_lowest) (by decide +kernel)) (fun _ _ _ _ _ => by exact (pg_name (i := 2) sc_p_lowest.nd rfl (.inl rfl))) (fun _ _ _ _ _ => by exact pts_nil) (fun _ _ _ _ _ => by exact (pe_op op_fdivW (pv 2) (pv 1)))) pa_nil)))))), ?_⟩
    have lw : (nts ws).length = ws.length := List.length_map ..
    refine ⟨_, rfl, wa, rfl, ⟨_, .inl (.inl hw)⟩, for_tup (K := K) (a := wa) (xs := nts ws) (fun i σ H' => ∃ y, σ = [some (.ref wa), some (.int (gcdF 0 (ws.take i) : Nat)), y] ∧ H' = H) ⟨none, rfl, rfl⟩ (fun i σ H' _ h => ?_) (fun i x σ H' hi h => ?_) (fun σ H' h => ?_)⟩
    · obtain ⟨y, _, rfl⟩ := h
      exact .inl (.inl hw)
    · obtain ⟨y, rfl, rfl⟩ := h
      rw [List.getElem?_map] at hi
      obtain ⟨n, hn, rfl⟩ := Option.map_eq_some_iff.mp hi
      refine ⟨_, rfl, _, rfl, (n : Int), (gcdF 0 (ws.take i) : Nat), rfl, ?_⟩
      refine ⟨some (.int n), ?_, rfl⟩
      rw [List.take_add_one, hn]
      show _ = [some (V.ref wa), some (.int (gcdF 0 (ws.take i ++ [n]) : Nat)), _]
      rw [gcdF_snoc, Int.gcd_natCast_natCast]
      rfl
    · obtain ⟨y, rfl, rfl⟩ := h
      rw [lw, List.take_length]
      have g0 : 0 < gcdF 0 ws := gcdF_pos pos
      obtain ⟨n0, hn0, h0⟩ := pos
      have gl : gcdF 0 ws < 2 ^ 4000 := Nat.lt_of_le_of_lt (Nat.le_of_dvd h0 ((gcdF_dvd ws 0).2 n0 hn0)) (bd n0 hn0)
      refine ⟨_, rfl, wa, rfl, ⟨_, .inl (.inl hw)⟩, fun D nD => lc_allW (walk_tup (K := K) (a := wa) (xs := nts ws)) (fun i y _ => ∃ n, ws[i]? = some n ∧ y = .int ((n / gcdF 0 ws : Nat))) (fun _ _ _ _ _ h => h) nD (fun H' s => .inl (.inl (s _ _ hw))) (by omega) (fun i v H2 H3 k hi s2 eD y hk => ?_) (fun H2 ys s2 e l r => ?_)⟩
      · obtain ⟨rfl, hv⟩ := y
        rw [List.getElem?_map] at hv
        obtain ⟨n, hn, rfl⟩ := Option.map_eq_some_iff.mp hv
        refine ⟨rfl, _, rfl, _, rfl, _, _, rfl, rfl, wide_div (b := 4000) (by omega) (nat_abs gl) (by decide) (by decide), hk _ _ (Same.refl _) ⟨n, hn, ?_⟩⟩
        dsimp only
        rw [Int.natCast_ediv]
      · have ey : ys = nts (low ws) := by
          refine List.ext_getElem? fun i => ?_
          by_cases hi : i < ys.length
          · obtain ⟨n, hn, hy⟩ := r i _ (List.getElem?_eq_getElem hi)
            rw [List.getElem?_eq_getElem hi, hy]
            unfold nts low
            rw [List.map_map, List.getElem?_map, hn]
            rfl
          · rw [List.getElem?_eq_none (by omega), List.getElem?_eq_none (by simp [nts, low]; omega)]
        rw [ey] at e
        refine ⟨D, _, rfl, .inl ⟨SqL.of e, fun t nt => ?_⟩⟩
        exact q _ t ((s2.trans hid_same).trans (same_upd nt)) upd_same
end

end Fb

namespace Fb
open PySem PySem.Spec PyProof.Rows L2
section
variable {P : Program} {w : World} {K : PySem.W.Frag} {mg : Str → Option Value} {base : Heap}
/-! ### Machine(many, steps), of good ones -/
theorem ms : ¬ (("many" : Str) = "steps") := by decide +kernel
def mflds (m : Nat) (r : Addr) : List (Str × V) := putF "steps" (.ref r) (putF "many" (.int (m : Int)) [])
theorem mflds_many (m : Nat) (r : Addr) : (mflds m r).lookup ("many" : Str) = some (.int (m : Int)) := by
  unfold mflds
  rw [lookup_putF, if_neg ms, lookup_putF, if_pos rfl]
theorem mflds_steps (m : Nat) (r : Addr) : (mflds m r).lookup ("steps" : Str) = some (.ref r) := by
  unfold mflds
  rw [lookup_putF, if_pos rfl]
def lowS (s : Stp) : Stp := ⟨s.room, s.sign, low s.ws⟩
theorem lowS_key (s : Stp) : (lowS s).key = s.key := rfl
structure Sorted (out : List Stp) : Prop where
  up : out.Pairwise fun a b => rsLt a.key b.key = true
def SortedOf (ss out : List Stp) : Prop := out.Perm (ss.map lowS) ∧ Sorted out
theorem sorted_uniq : ∀ {a b : List Stp}, Sorted a → Sorted b → a.Perm b → a = b
  | [], b, _, _, p => (List.Perm.eq_nil p.symm).symm
  | x :: a, [], _, _, p => absurd p.length_eq (by simp)
  | x :: a, y :: b, ⟨ha⟩, ⟨hb⟩, p => by
    have ha' := List.pairwise_cons.mp ha
    have hb' := List.pairwise_cons.mp hb
    have e : x = y := by
      rcases List.mem_cons.mp (p.mem_iff.mp List.mem_cons_self) with e | hx
      · exact e
      · rcases List.mem_cons.mp (p.symm.mem_iff.mp List.mem_cons_self) with e | hy
        · exact e.symm
        · have h1 := hb'.1 x hx
          have h2 := ha'.1 y hy
          have := rsLt_trans h1 h2
          rw [rsLt_irr] at this
          cases this
    subst e
    rw [sorted_uniq ⟨ha'.2⟩ ⟨hb'.2⟩ (List.Perm.cons_inv p)]
theorem AllAre.uncons' {α : Type} {R : V → α → Prop} {v : V} {vs : List V} {xs : List α} (h : AllAre R (v :: vs) xs) : ∃ x r, xs = x :: r ∧ R v x ∧ AllAre R vs r := by
  cases xs with
  | nil => exact absurd h.1 (by simp)
  | cons x r => exact ⟨x, r, rfl, h.2 0 v x rfl rfl, by simpa using h.1, fun i a b h1 h2 => h.2 (i + 1) a b (by simpa using h1) (by simpa using h2)⟩
theorem AllAre.perm {α : Type} {R : V → α → Prop} {xs ys : List V} (p : ys.Perm xs) : ∀ {as : List α}, AllAre R xs as → ∃ bs, AllAre R ys bs ∧ bs.Perm as := by
  induction p with
  | nil => exact fun {as} h => ⟨as, h, List.Perm.refl _⟩
  | cons x _ ih =>
    intro as h
    obtain ⟨a, r, rfl, h1, h2⟩ := h.uncons'
    obtain ⟨bs, b1, b2⟩ := ih h2
    exact ⟨a :: bs, .cons h1 b1, b2.cons a⟩
  | swap x y l =>
    intro as h
    obtain ⟨a, r, rfl, h1, h2⟩ := h.uncons'
    obtain ⟨b, r', rfl, h3, h4⟩ := h2.uncons'
    exact ⟨b :: a :: r', .cons h3 (.cons h1 h4), List.Perm.swap a b r'⟩
  | trans _ _ ih1 ih2 =>
    intro as h
    obtain ⟨bs, b1, b2⟩ := ih2 h
    obtain ⟨cs, c1, c2⟩ := ih1 b1
    exact ⟨cs, c1, c2.trans b2⟩
/-- the room and sign of what stands at a value -/
def kfH (H : Hp) : V → RS
  | .ref t => match H t with
    | some (.tup (.int i :: .str s :: _)) => (i, s)
    | _ => (0, ⟨#[]⟩)
  | _ => (0, ⟨#[]⟩)
theorem kfH_of {H : Hp} {v : V} {s : Stp} (h : IsStp H v s) : kfH H v = s.key := by
  obtain ⟨t, wa, rfl, ht, _⟩ := h
  simp only [kfH, ht]
def spMach (C : Addr) : Sp := fun vs H Q _ => ∃ (p dx : Addr) (m : Nat) (v : V) (ss : List Stp), vs = [.ref p, .int m, v] ∧ H p = some (.ins C dx []) ∧ IsStps H v ss ∧ StpsOk m ss ∧
  ∀ H' r svs out, (∀ a o, H a = some o → a ≠ p → H' a = some o) → H' p = some (.ins C dx (mflds m r)) → H r = none → H' r = some (.lst svs) → AllAre (IsStp H') svs out → SortedOf ss out → Q .non H'
theorem nts_keys (ns : List Nat) : nts ns = (ns.map fun (n : Nat) => (Sum.inl (n : Int) : Key)).map kV := by
  rw [List.map_map]
  rfl
theorem ok_m_Machine_init (T : Txt K mg) : FnOk P w K mg base CX0 5 T.f_m_Machine_init T.d_m_Machine_init ["self", "many", "steps"] (spMach T.c_Machine) := by
  refine T.F_m_Machine_init.ok sc_m_Machine_init (fun vs H Q E h => ?_) (fun cdv A outer s H vs Q E hr h => ?_)
  · obtain ⟨p, dx, m, v, ss, rfl, _⟩ := h
    rfl
  · obtain ⟨p, dx, m, v, ss, rfl, hp, hv, ok, q⟩ := h
    refine ⟨_, PSs.nox (pss_cons (ps_if (PW.pt (pw_or (pt_not (pt_val (pe_call (ok_p_is_whole T) (hr.mono (by decide)) (by rfl) T.g_p_is_whole T.F_p_is_whole.kp T.b_p_is_whole .nil pass0 (pa_cons (pv 1) pa_nil)))) (pw_or1 (pt_not (pt_chain op_le op_le pe_int (pv 1) (pe_glob (by rfl) T.g_MOST_ROOMS T.r_MOST_ROOMS))))))
  (pss_one ps_never)
  pss_nil)
 (pss_cons (ps_if (pt_not (pt_val (pe_call (ok_p_are_steps T) (hr.mono (by decide)) (by rfl) T.g_p_are_steps T.F_p_are_steps.kp T.b_p_are_steps .nil pass0 (pa_cons (pv 2) (pa_cons (pv 1) pa_nil)))))
  (pss_one ps_never)
  pss_nil)
 (pss_cons (ps_fld (pv 0) (pv 1) rfl)
 (pss_one (ps_fld (pv 0) (pe_callB (cr_sortS (units2 hr.units)) (by rfl) T.z_sorted (by decide +kernel) (pa_cons (pe_lc (own := [("room", 3), ("sign", 4), ("weights", 5)]) (g := (gTup K 3 (gCons (gName 3) (gCons (gName 4) (gCons (gName 5) gNil))))) (tt := tYes) (by rfl) sc_m_Machine_init.nd (pi_list (pv 2)) (blkOk_by (own := [("room", 3), ("sign", 4), ("weights", 5)]) (N := ["self", "many", "steps", "room", "sign", "weights"]) (sc := defScope s_m_Machine_init) (by decide +kernel)) (fun _ _ _ _ _ => by exact (pg_tup (by rfl) (pgs_cons (pg_name (i := 3) sc_m_Machine_init.nd rfl (.inl rfl)) (pgs_cons (pg_name (i := 4) sc_m_Machine_init.nd rfl (.inl rfl)) (pgs_cons (pg_name (i := 5) sc_m_Machine_init.nd rfl (.inl rfl)) pgs_nil))))) (fun _ _ _ _ _ => by exact pts_nil) (fun _ _ _ _ _ => by exact (pe_tup (pa_cons (pv 3) (pa_cons (pv 4) (pa_cons (pe_call (ok_p_lowest T) (hr.mono (by decide)) (by rfl) T.g_p_lowest T.F_p_lowest.kp T.b_p_lowest .nil pass0 (pa_cons (pv 5) pa_nil)) pa_nil)))))) pa_nil)) rfl))))), ?_⟩
    have m1 := ok.m1
    have m12 := ok.m12
    refine ⟨_, rfl, (m : Int), rfl, true, rfl, iteF ?_⟩
    refine ⟨_, rfl, _, _, rfl, rfl, true, congrArg V.bl (decide_eq_true (by omega)), iteT ⟨_, _, rfl, rfl, true, congrArg V.bl (decide_eq_true (by omega)), iteF ?_⟩⟩
    refine ⟨_, rfl, _, rfl, v, m, ss, rfl, hv, ok, fun H1 s1 => ⟨true, rfl, iteF ?_⟩⟩
    have hp1 := s1 _ _ hp
    refine ⟨_, rfl, _, rfl, p, T.c_Machine, dx, [], rfl, hp1, T.cl_Machine, T.n_Machine_many, (by show 0 < 1000; decide), ?_⟩
    generalize hH2 : upd H1 p (.ins T.c_Machine dx (putF "many" (.int (m : Int)) [])) = H2
    have k2 : ∀ a o, H1 a = some o → a ≠ p → H2 a = some o := fun a o e ne => by
      rw [← hH2, upd_ne ne]
      exact e
    have hp2 : H2 p = some (.ins T.c_Machine dx (putF "many" (.int (m : Int)) [])) := by rw [← hH2]; exact upd_same
    have nlp : ∀ {a : Addr} {xs : List V}, H1 a = some (.lst xs) → a ≠ p := fun e z => by
      rw [z, hp1] at e
      cases e
    have ntp : ∀ {a : Addr} {xs : List V}, H1 a = some (.tup xs) → a ≠ p := fun e z => by
      rw [z, hp1] at e
      cases e
    obtain ⟨pv, xs, rfl, ev, av⟩ := hv.mono s1
    have ev2 := k2 _ _ ev (nlp ev)
    have av2 : AllAre (IsStp H2) xs ss := av.imp fun _ _ h => by
      obtain ⟨t, wa, e, h1, h2⟩ := h
      exact ⟨t, wa, e, k2 _ _ h1 (ntp h1), k2 _ _ h2 (ntp h2)⟩
    have few := ok.few
    refine ⟨_, rfl, pv, rfl, ⟨_, SqL.of ev2⟩, fun D nD => lc_all (K := K) (a := pv) (xs := xs) (fun i y G => ∃ st, ss[i]? = some st ∧ IsStp G y (lowS st)) (fun _ _ _ _ s h => h.elim fun st f => ⟨st, f.1, f.2.mono s⟩) nD (SqL.of ev2) (by rw [av.1]; omega) (fun i x H3 k hi s3 eD hk => ?_) (fun H3 ys s3 e3 l3 r3 => ?_)⟩
    · obtain ⟨st, hst, t, wa, rfl, ht, hw⟩ := av2.at hi
      have so := ok.all st (List.mem_of_getElem? hst)
      have ht := hid_same _ _ (s3 _ _ ht)
      have hw := hid_same _ _ (s3 _ _ hw)
      refine ⟨t, _, rfl, .inl (.inl ht), rfl, _, _, rfl, _, _, rfl, _, _, rfl, rfl, rfl, ?_⟩
      refine ⟨_, rfl, _, rfl, _, rfl, wa, st.ws, rfl, hw, so.wts.pos, so.wts.bd, by rw [so.wts.len]; omega, fun H4 r4 s4 h4 => ?_⟩
      refine ⟨by show 3 ≤ sizeLine; decide, fun c nc => ?_⟩
      have sc := same_upd (o := .tup [.int st.room, .str st.sign, .ref r4]) nc
      have eD' : ∃ ys, (upd H4 c (.tup [.int st.room, .str st.sign, .ref r4])) D = some (.lst ys) := by
        obtain ⟨ys', e'⟩ := eD
        exact ⟨ys', sc _ _ (s4 _ _ e')⟩
      exact hk _ _ (s4.trans sc) ⟨st, hst, c, r4, rfl, hid_no eD' upd_same (fun _ => nofun), hid_no eD' (sc _ _ h4) (fun _ => nofun)⟩
    · have aS : AllAre (IsStp H3) ys (ss.map lowS) := .of_ix (by rw [l3, av.1, List.length_map]) fun i y hy => by
        obtain ⟨st, hst, h⟩ := r3 i y hy
        exact ⟨lowS st, by rw [List.getElem?_map, hst]; rfl, h.mono hid_same⟩
      have kf_at : ∀ {i : Nat} {y : V} {st : Stp}, ys[i]? = some y → ss[i]? = some st → kfH H3 y = st.key := fun {i y st} hy hs => by
        have := aS.2 i y (lowS st) hy (by rw [List.getElem?_map, hs]; rfl)
        rw [kfH_of this, lowS_key]
      have ixs : ∀ {y : V}, y ∈ ys → ∃ i st, ys[i]? = some y ∧ ss[i]? = some st := fun {y} hy => by
        obtain ⟨i, hi, e⟩ := List.mem_iff_getElem.mp hy
        have hl : i < ss.length := by rw [l3, av.1] at hi; exact hi
        exact ⟨i, ss[i], by rw [List.getElem?_eq_getElem hi, e], List.getElem?_eq_getElem hl⟩
      have one : ∀ x ∈ ys, ∀ y ∈ ys, kfH H3 x = kfH H3 y → x = y := fun x hx y hy e => by
        obtain ⟨i, si, a1, a2⟩ := ixs hx
        obtain ⟨j, sj, b1, b2⟩ := ixs hy
        rw [kf_at a1 a2, kf_at b1 b2] at e
        have := nodup_inj ok.once (i := i) (j := j) (x := si.key) (by rw [List.getElem?_map, a2]; rfl) (by rw [List.getElem?_map, b2, e]; rfl)
        subst this
        rw [a1] at b1
        cases b1
        rfl
      refine ⟨D, ys, kfH H3, rfl, SqL.of e3, by rw [l3, av.1]; omega, fun x hx => ?_, one, fun zs r pm up nr => ?_⟩
      · obtain ⟨i, si, a1, a2⟩ := ixs hx
        obtain ⟨t, wa, rfl, ht, hw⟩ := aS.2 i x (lowS si) a1 (by rw [List.getElem?_map, a2]; rfl)
        refine ⟨t, wa, _, rfl, ?_, by rw [← nts_keys]; exact hw⟩
        rw [kf_at a1 a2]
        exact ht
      · have sr := same_upd (o := .lst zs) nr
        have s23 : Same H2 H3 := s3.trans hid_same
        have hp3 := sr _ _ (s23 _ _ hp2)
        obtain ⟨out, aO, pO⟩ := AllAre.perm pm aS
        have rp : r ≠ p := fun z => by
          rw [z, s23 _ _ hp2] at nr
          cases nr
        refine ⟨_, rfl, p, T.c_Machine, dx, _, rfl, hp3, T.cl_Machine, T.n_Machine_steps, (by show 1 < 1000; decide), ?_⟩
        have keepP : ∀ a o, (upd H3 r (.lst zs)) a = some o → a ≠ p → (upd (upd H3 r (.lst zs)) p (.ins T.c_Machine dx (mflds m r))) a = some o := fun a o e ne => by
          rw [upd_ne ne]
          exact e
        refine q _ r zs out (fun a o e ne => keepP a o (sr _ _ (s23 _ _ (k2 a o (s1 _ _ e) ne))) ne) upd_same ?_ (keepP r _ upd_same rp) (aO.imp fun _ _ h => ?_) ⟨pO, ⟨?_⟩⟩
        · cases e : H r with
          | none => rfl
          | some o =>
            have := s23 _ _ (k2 _ _ (s1 _ _ e) rp)
            rw [nr] at this
            cases this
        · obtain ⟨t, wa, e, h1, h2⟩ := h
          have tp : ∀ {a : Addr} {xs : List V}, H3 a = some (.tup xs) → a ≠ p := fun e z => by
            rw [z, s23 _ _ hp2] at e
            cases e
          exact ⟨t, wa, e, keepP _ _ (sr _ _ h1) (tp h1), keepP _ _ (sr _ _ h2) (tp h2)⟩
        · rw [List.pairwise_iff_getElem]
          intro i j hi hj hij
          have gi : zs[i]? = some (zs[i]'(by rw [aO.1]; exact hi)) := List.getElem?_eq_getElem _
          have gj : zs[j]? = some (zs[j]'(by rw [aO.1]; exact hj)) := List.getElem?_eq_getElem _
          have ki := kfH_of (aO.2 i _ _ gi (List.getElem?_eq_getElem hi))
          have kj := kfH_of (aO.2 j _ _ gj (List.getElem?_eq_getElem hj))
          have le := (List.pairwise_iff_getElem.mp up) i j (by rw [aO.1]; exact hi) (by rw [aO.1]; exact hj) hij
          rw [ki, kj] at le
          cases lt : rsLt out[i].key out[j].key with
          | true => rfl
          | false =>
            exfalso
            have e := rsLt_total lt le
            have nd : (out.map Stp.key).Nodup := by
              refine (pO.map Stp.key).nodup_iff.mpr ?_
              rw [List.map_map]
              exact ok.once
            have := nodup_inj nd (i := i) (j := j) (x := out[i].key) (by rw [List.getElem?_map, List.getElem?_eq_getElem hi]; rfl) (by rw [List.getElem?_map, List.getElem?_eq_getElem hj, e]; rfl)
            omega
end

end Fb

namespace Fb
open PySem PySem.Spec PyProof.Rows L2
section
variable {P : Program} {w : World} {K : PySem.W.Frag} {mg : Str → Option Value} {base : Heap}
/-! ### the law's names -/
def tenNames : List Str := ["a", "ab", "b", "stop", "toss", "abc", "part", "zzzzzzzz", "ba", "aa"]
def kqs : List Nat := ("kqxzjvwmbt" : Str).cps.toList
def NmFrom (z : Str) : Prop := z ∈ tenNames ∨ ∃ c ∈ kqs, z.cps.toList.getLast? = some c
structure NmsOk (m : Nat) (zs : List Str) : Prop where
  len : zs.length = m
  nd : zs.Nodup
  all : ∀ z ∈ zs, NmOk z
  src : ∀ z ∈ zs, NmFrom z
theorem nmOk_of {x : Str} (h : (decide (1 ≤ x.length) && decide (x.length ≤ 8) && x.cps.toList.all fun c => decide (c ∈ letters)) = true) : NmOk x := by
  rw [Bool.and_eq_true, Bool.and_eq_true] at h
  exact ⟨of_decide_eq_true h.1.1, of_decide_eq_true h.1.2, fun c hc => of_decide_eq_true (List.all_eq_true.mp h.2 c hc)⟩
theorem ten_all : ∀ z ∈ tenNames, NmOk z := fun z hz => nmOk_of (by
  have : (tenNames.all fun x => (decide (1 ≤ x.length) && decide (x.length ≤ 8) && x.cps.toList.all fun c => decide (c ∈ letters))) = true := by decide +kernel
  exact List.all_eq_true.mp this z hz)
theorem ten_nd : tenNames.Nodup := by decide +kernel
def rot (k m : Nat) : List Str := (tenNames.drop k ++ tenNames.take k).take m
theorem rot_ok {k m : Nat} (hm : m ≤ 10) : NmsOk m (rot k m) := by
  have pm : (tenNames.drop k ++ tenNames.take k).Perm tenNames := List.perm_append_comm.trans (by rw [List.take_append_drop])
  have l10 : (tenNames.drop k ++ tenNames.take k).length = 10 := pm.length_eq
  have mem : ∀ z ∈ rot k m, z ∈ tenNames := fun z hz => pm.mem_iff.mp (List.mem_of_mem_take hz)
  exact ⟨by unfold rot; rw [List.length_take, l10]; omega, (List.take_sublist _ _).nodup (pm.nodup_iff.mpr ten_nd), fun z hz => ten_all z (mem z hz), fun z hz => .inl (mem z hz)⟩
theorem kq_nd : kqs.Nodup := by decide +kernel
theorem kq_let : ∀ c ∈ kqs, c ∈ letters := by decide +kernel
theorem kq_cut {m : Nat} (h : m ≤ 10) : (cutS ("kqxzjvwmbt" : Str) none (some (m : Int))).cps.toList = kqs.take m := by
  show ((kqs.drop 0).take (HT.sIx 10 10 (some (m : Int)) - 0)).toArray.toList = _
  rw [HT.sIx_nat, Nat.min_eq_left h]
  rfl
theorem of_ends {zs : List Str} {cs : List Nat} (h : zs.map (fun z => z.cps.toList.getLast?) = cs.map some) (nd : cs.Nodup) : zs.Nodup := by
  have h1 : (cs.map some).Nodup := List.pairwise_map.mpr (nd.imp fun hab e => hab (Option.some.inj e))
  rw [← h] at h1
  exact (List.pairwise_map.mp h1).imp fun hab e => hab (by rw [e])
theorem none_of {H H' : Hp} {p : Addr} (s : Same H H') (h : H' p = none) : H p = none := by
  cases e : H p with
  | none => rfl
  | some o =>
    have := s _ _ e
    rw [h] at this
    cases this
def spNames : Sp := fun vs H Q _ => ∃ (a : Addr) (m n : Nat), vs = [.ref a, .int m] ∧ m ≤ 4 ∧ WellAt H a (n + 50) ∧
  ∀ H' p zs, H p = none → Same (hid a H) (hid a H') → WellAt H' a n → H' p = some (.lst (zs.map V.str)) → NmsOk m zs → Q (.ref p) H'
theorem four_at {d : Int} {i : Nat} {x : V} (d0 : 0 ≤ d) (d8 : d < 8) (h : [V.int 0, V.int 0, V.int 1, V.int d][i]? = some x) : ∃ l : Nat, l ≤ 7 ∧ x = .int l := by
  match i with
  | 0 => cases h; exact ⟨0, by omega, rfl⟩
  | 1 => cases h; exact ⟨0, by omega, rfl⟩
  | 2 => cases h; exact ⟨1, by omega, rfl⟩
  | 3 => cases h; exact ⟨d.toNat, by omega, by rw [Int.toNat_of_nonneg d0]⟩
  | k + 4 => cases h
theorem ok_l_names (T : Txt K mg) : FnOk P w K mg base CX0 3 T.f_l_names T.d_l_names ["_law_well_here", "_law_many"] spNames := by
  refine T.F_l_names.ok sc_l_names (fun vs H Q E h => ?_) (fun cdv A outer s H vs Q E hr h => ?_)
  · obtain ⟨a, m, n, rfl, _⟩ := h
    rfl
  · obtain ⟨a, m, n, rfl, m4, hw, q⟩ := h
    refine ⟨_, (pss_cons (ps_if (pt_cmpR op_eq (pe_call (ok_l_draw T) (hr.mono (by decide)) (by rfl) T.g_l_draw T.F_l_draw.kp T.b_l_draw .nil pass0 (pa_cons (pv 0) (pa_cons pe_int pa_nil))) pe_int (nomark _))
  (pss_cons (ps_set (i := 2) sc_l_names.nd rfl (.inl rfl) (pe_lst (pa_cons pe_str (pa_cons pe_str (pa_cons pe_str (pa_cons pe_str (pa_cons pe_str (pa_cons pe_str (pa_cons pe_str (pa_cons pe_str (pa_cons pe_str (pa_cons pe_str pa_nil))))))))))))
 (pss_cons (ps_set (i := 3) sc_l_names.nd rfl (.inl rfl) (pe_call (ok_l_draw T) (hr.mono (by decide)) (by rfl) T.g_l_draw T.F_l_draw.kp T.b_l_draw .nil pass0 (pa_cons (pv 0) (pa_cons pe_int pa_nil))))
 (pss_one (ps_ret (pe_slice sl_list (pe_op op_cat (pe_slice sl_list (pv 2) (po_some (pv 3)) po_none) (pe_slice sl_list (pv 2) po_none (po_some (pv 3)))) po_none (po_some (pv 1)))))))
  pss_nil)
 (pss_cons (ps_set (i := 4) sc_l_names.nd rfl (.inl rfl) (pe_lst pa_nil))
 (pss_cons (ps_for PassesOwn.never rfl (pi_str (pe_slice sl_str pe_str po_none (po_some (pv 1)))) (pg_name (i := 5) sc_l_names.nd rfl (.inl rfl))
  (pss_cons (ps_set (i := 6) sc_l_names.nd rfl (.inl rfl) pe_str)
 (pss_cons (ps_for PassesOwn.never rfl (pi_range1 (by rfl) T.z_range (pa_cons (pe_call (ok_l_one T) (hr.mono (by decide)) (by rfl) T.g_l_one T.F_l_one.kp T.b_l_one .nil pass0 (pa_cons (pv 0) (pa_cons (pe_lst (pa_cons pe_int (pa_cons pe_int (pa_cons pe_int (pa_cons (pe_call (ok_l_draw T) (hr.mono (by decide)) (by rfl) T.g_l_draw T.F_l_draw.kp T.b_l_draw .nil pass0 (pa_cons (pv 0) (pa_cons pe_int pa_nil))) pa_nil))))) pa_nil))) pa_nil)) (pg_name (i := 7) sc_l_names.nd rfl (.inl rfl))
  (pss_one (ps_set (i := 6) sc_l_names.nd rfl (.inl rfl) (pe_op op_add_str (pv 6) (pe_ix ix_str pe_str (pe_call (ok_l_draw T) (hr.mono (by decide)) (by rfl) T.g_l_draw T.F_l_draw.kp T.b_l_draw .nil pass0 (pa_cons (pv 0) (pa_cons pe_int pa_nil))) (fun _ _ => rfl))))))
 (pss_one (ps_expr (pe_bm PySem.F.plainAttrs_list PySem.F.slot_list_append PySem.F.type_list_append mt_append (pv 4) (pa_cons (pe_op op_add_str (pv 6) (pv 5)) pa_nil)))))))
 (pss_one (ps_ret (pv 4)))))), ?_⟩
    refine ⟨_, rfl, a, 3, n + 49, rfl, hw, by decide, by decide, fun d H1 d0 d1 s1 w1 => ⟨rfl, _, rfl, ite2 (fun h => ?_) (fun h => ?_)⟩⟩
    · refine ⟨by show 10 ≤ sizeLine; decide, fun ps nps => ?_⟩
      obtain ⟨w2, s2⟩ := well_new (o := .lst (tenNames.map V.str)) w1 nps
      have hps : (upd H1 ps (.lst (tenNames.map V.str))) ps = some (.lst (tenNames.map V.str)) := upd_same
      have npa := w1.ne nps
      refine ⟨_, rfl, a, 10, n + 48, rfl, w2, by decide, by decide, fun e H2 e0 e1 s3 w3 => ?_⟩
      obtain ⟨k, rfl⟩ : ∃ k : Nat, e = (k : Int) := ⟨e.toNat, (Int.toNat_of_nonneg e0).symm⟩
      have hps2 : H2 ps = some (.lst (tenNames.map V.str)) := hid_same _ _ (s3 _ _ (by rw [hid_ne npa]; exact hps))
      have sH : Same (hid a H) (hid a H2) := s1.trans (s2.trans s3)
      refine ⟨_, rfl, _, rfl, k, rfl, ps, _, rfl, SqL.of hps2, fun p1 np1 => ?_⟩
      have t1 := same_upd (o := .lst (cutV (tenNames.map V.str) (some (k : Int)) none)) np1
      refine ⟨_, rfl, _, rfl, k, rfl, ps, _, rfl, SqL.of (t1 _ _ hps2), fun p2 np2 => ?_⟩
      have t2 := same_upd (o := .lst (cutV (tenNames.map V.str) none (some (k : Int)))) np2
      refine ⟨p1, p2, _, _, rfl, rfl, t2 _ _ upd_same, upd_same, ?_, fun p3 np3 => ?_⟩
      · have h1 := cutV_length (tenNames.map V.str) (some (k : Int)) none
        have h2 := cutV_length (tenNames.map V.str) none (some (k : Int))
        rw [List.length_map] at h1 h2
        have : tenNames.length = 10 := rfl
        exact Nat.le_of_lt (small1000 (by omega))
      have t3 := same_upd (o := .lst (cutV (tenNames.map V.str) (some (k : Int)) none ++ cutV (tenNames.map V.str) none (some (k : Int)))) np3
      refine ⟨_, rfl, m, rfl, p3, _, rfl, SqL.of upd_same, fun p4 np4 => ?_⟩
      have t4 := same_upd (o := .lst (cutV (cutV (tenNames.map V.str) (some (k : Int)) none ++ cutV (tenNames.map V.str) none (some (k : Int))) none (some (m : Int)))) np4
      have st := t1.trans (t2.trans (t3.trans t4))
      refine q _ p4 (rot k m) ?_ (sH.trans (hid_mono st)) ((w3.same st).mono (by omega)) ?_ (rot_ok (by omega))
      · exact none_back sH w3 (none_of (t1.trans (t2.trans t3)) np4)
      · have c1 := cut_from (xs := tenNames.map V.str) (k := k) (by rw [List.length_map]; show k ≤ 10; omega)
        have c2 := cut_to (xs := tenNames.map V.str) (k := k) (by rw [List.length_map]; show k ≤ 10; omega)
        rw [upd_same, c1, c2, ← List.map_drop, ← List.map_take, ← List.map_append, cut_to, ← List.map_take]
        · rfl
        · rw [List.length_map, List.length_append, List.length_drop, List.length_take]
          show m ≤ 10 - k + min k 10
          omega
    · refine ⟨Nat.zero_le _, fun pf nf => ?_⟩
      obtain ⟨w2, s2⟩ := well_new (o := .lst []) w1 nf
      have nfH := none_back s1 w1 nf
      have nfa := w1.ne nf
      have kc := kq_cut (m := m) (by omega)
      have kz : (cutS ("kqxzjvwmbt" : Str) none (some (m : Int))).cps.size = m := by
        rw [← Array.length_toList, kc, List.length_take]
        show min m 10 = m
        omega
      refine ⟨_, rfl, m, rfl, _, rfl, by decide, cutS ("kqxzjvwmbt" : Str) none (some (m : Int)), rfl, ?_⟩
      refine for_it walk_str (fun i σ H' => ∃ (z5 z6 z7 : Option V) (zs : List Str), σ = [some (.ref a), some (.int m), none, none, some (.ref pf), z5, z6, z7] ∧ Same (hid a H) (hid a H') ∧ WellAt H' a (n + 9 * (m - i)) ∧ H' pf = some (.lst (zs.map V.str)) ∧ zs.length = i ∧ zs.map (fun z => z.cps.toList.getLast?) = (kqs.take i).map some ∧ ∀ z ∈ zs, NmOk z) ?_ (fun _ _ _ _ _ => trivial) (fun i v σ H2 H3 hi h y => ?_) (fun σ H2 h => ?_)
      · exact ⟨none, none, none, [], rfl, s1.trans s2, w2.mono (by omega), upd_same, rfl, rfl, fun z hz => by cases hz⟩
      · obtain ⟨rfl, c, hc, rfl⟩ := y
        obtain ⟨z5, z6, z7, zs, rfl, sH, w3, hf, lz, ez, az⟩ := h
        rw [kz] at hi
        rw [← Array.getElem?_toList, kc, List.getElem?_take_of_lt hi] at hc
        have hck : c ∈ kqs := List.mem_of_getElem? hc
        obtain ⟨r, hr9⟩ : ∃ r, n + 9 * (m - i) = r + 9 ∧ r = n + 9 * (m - (i + 1)) := ⟨_, by omega, rfl⟩
        rw [hr9.1] at w3
        refine ⟨_, rfl, _, rfl, a, 8, r + 8, rfl, w3, by decide, by decide, fun d H4 d0 d1 s4 w4 => ⟨by show 4 ≤ sizeLine; decide, fun p4 n4 => ?_⟩⟩
        obtain ⟨w5, s5⟩ := well_new (o := .lst [.int 0, .int 0, .int 1, .int d]) w4 n4
        refine ⟨a, p4, _, r + 7, rfl, w5, sqL_hid w4 n4, by show 0 < 4; decide, by show 4 ≤ 1000; decide, fun j x H5 hx s6 w6 => ?_⟩
        obtain ⟨l, l7, rfl⟩ := four_at d0 d1 hx
        have s46 := s4.trans (s5.trans s6)
        refine ⟨l, rfl, by omega, by omega, for_range (fun j σ H' => ∃ (z7 : Option V) (wd : Str), σ = [some (.ref a), some (.int m), none, none, some (.ref pf), some (.str ⟨#[c]⟩), some (.str wd), z7] ∧ Same (hid a H3) (hid a H') ∧ WellAt H' a (r + (7 - j)) ∧ wd.length = j ∧ ∀ c ∈ wd.cps.toList, c ∈ letters) ⟨_, _, rfl, s46, w6, rfl, fun c hc => by cases hc⟩ (fun j σ H6 hj h => ?_) (fun σ H6 h => ?_)⟩
        · obtain ⟨z7, wd, rfl, s7, w7, lw, aw⟩ := h
          rw [Int.toNat_natCast] at hj
          refine ⟨_, rfl, _, rfl, a, 26, r + (7 - (j + 1)), rfl, w7.mono (by omega), by decide, by decide, fun e H7 e0 e1 s8 w8 => ?_⟩
          obtain ⟨ch, h1, h2⟩ := atI_get (xs := letters) e0 e1
          refine ⟨_, e, ch, rfl, rfl, by decide, h1, _, _, rfl, rfl, ?_, ?_⟩
          · show wd.length + 1 ≤ sizeLine
            exact Nat.le_of_lt (small1000 (by omega))
          · refine ⟨_, _, rfl, s7.trans s8, w8, ?_, fun c' hc' => ?_⟩
            · show (wd.cps ++ #[ch]).size = j + 1
              rw [Array.size_append, show wd.cps.size = j from lw]
              rfl
            · rw [show (wd ++ (⟨#[ch]⟩ : Str)).cps.toList = wd.cps.toList ++ [ch] from Array.toList_append] at hc'
              rcases List.mem_append.mp hc' with h | h
              · exact aw _ h
              · rw [List.mem_singleton] at h
                rw [h]
                exact List.mem_of_getElem? h2
        · obtain ⟨z7, wd, rfl, s7, w7, lw, aw⟩ := h
          rw [Int.toNat_natCast] at lw w7
          have hf6 : H6 pf = some (.lst (zs.map V.str)) := hid_same _ _ (s7 _ _ (by rw [hid_ne nfa]; exact hf))
          refine ⟨_, rfl, .inl ⟨rfl, _, SqL.of hf6⟩, _, rfl, _, rfl, _, _, rfl, rfl, ?_, pf, _, _, rfl, rfl, hf6, ?_, ?_⟩
          · show wd.length + 1 ≤ sizeLine
            exact Nat.le_of_lt (small1000 (by omega))
          · rw [List.length_map]
            exact small1000 (by omega)
          have cp : (wd ++ (⟨#[c]⟩ : Str)).cps.toList = wd.cps.toList ++ [c] := Array.toList_append
          refine ⟨_, _, _, zs ++ [wd ++ ⟨#[c]⟩], rfl, ?_, ?_, ?_, ?_, ?_, fun z hz => ?_⟩
          · rw [hid_updN nfa]
            exact same_over (sH.trans s7) (by rw [hid_ne nfa]; exact nfH)
          · exact (w7.upd nfa).mono (by omega)
          · rw [upd_same, List.map_append]
            rfl
          · rw [List.length_append, lz]
            rfl
          · rw [List.map_append, ez, List.take_add_one, hc, List.map_append]
            show _ ++ [(wd ++ (⟨#[c]⟩ : Str)).cps.toList.getLast?] = _
            rw [cp, List.getLast?_append]
            rfl
          · rcases List.mem_append.mp hz with h | h
            · exact az _ h
            · rw [List.mem_singleton] at h
              subst h
              have lc : (wd ++ (⟨#[c]⟩ : Str)).length = l + 1 := by
                show (wd.cps ++ #[c]).size = l + 1
                rw [Array.size_append, show wd.cps.size = l from lw]
                rfl
              refine ⟨by omega, by omega, fun c' hc' => ?_⟩
              rw [cp] at hc'
              rcases List.mem_append.mp hc' with h | h
              · exact aw _ h
              · rw [List.mem_singleton] at h
                rw [h]
                exact kq_let _ hck
      · obtain ⟨z5, z6, z7, zs, rfl, sH, w3, hf, lz, ez, az⟩ := h
        rw [kz] at lz ez w3
        refine ⟨_, rfl, q H2 pf zs nfH sH (w3.mono (by omega)) hf ⟨lz, of_ends ez ((List.take_sublist _ _).nodup kq_nd), az, fun z hz => .inr ?_⟩⟩
        have : z.cps.toList.getLast? ∈ (kqs.take m).map some := by
          rw [← ez]
          exact List.mem_map.mpr ⟨z, hz, rfl⟩
        obtain ⟨c, hc, e⟩ := List.mem_map.mp this
        exact ⟨c, List.mem_of_mem_take hc, e.symm⟩
end

end Fb

namespace Fb
open PySem PySem.Spec PyProof.Rows L2
section
variable {P : Program} {w : World} {K : PySem.W.Frag} {mg : Str → Option Value} {base : Heap}
/-! ### the law's weights -/
theorem flat_rep1 {x : V} : ∀ m : Nat, (List.replicate m [x]).flatten = List.replicate m x
  | 0 => rfl
  | m + 1 => by
    rw [List.replicate_succ, List.flatten_cons, flat_rep1 m]
    rfl
theorem nts_len {ns : List Nat} : (nts ns).length = ns.length := List.length_map ..
theorem nts_at {ns : List Nat} {i : Nat} {v : V} (h : (nts ns)[i]? = some v) : ∃ n, ns[i]? = some n ∧ v = .int (n : Int) := by
  rw [List.getElem?_map] at h
  obtain ⟨n, hn, rfl⟩ := Option.map_eq_some_iff.mp h
  exact ⟨n, hn, rfl⟩
theorem nts_set {ns : List Nat} {j k : Nat} : (nts ns).set j (.int (k : Int)) = nts (ns.set j k) := (List.map_set ..).symm
theorem nts_ints {ns : List Nat} : nts ns = (ns.map fun (n : Nat) => (n : Int)).map V.int := by
  rw [List.map_map]
  rfl
theorem sum_nts : ∀ ns : List Nat, (ns.map fun (n : Nat) => (n : Int)).sum = ((ns.sum : Nat) : Int)
  | [] => rfl
  | n :: r => by
    rw [List.map_cons, List.sum_cons, List.sum_cons, sum_nts r]
    omega
theorem sum_pos : ∀ {ns : List Nat}, ns.sum ≠ 0 → ∃ n ∈ ns, 0 < n
  | [], h => absurd rfl h
  | n :: r, h => by
    by_cases h0 : 0 < n
    · exact ⟨n, List.mem_cons_self, h0⟩
    · rw [List.sum_cons] at h
      obtain ⟨k, hk, k0⟩ := sum_pos (ns := r) (by omega)
      exact ⟨k, List.mem_cons_of_mem _ hk, k0⟩
theorem ixn_lt {m : Nat} {d : Int} (d0 : 0 ≤ d) (d1 : d < m) : ixN m d = some d.toNat := by
  unfold ixN
  rw [if_pos d0, if_pos (by omega)]
theorem mem_setN {ns : List Nat} {j k x : Nat} (h : x ∈ ns.set j k) : x ∈ ns ∨ x = k := List.mem_or_eq_of_mem_set h
def spDWts : Sp := fun vs H Q _ => ∃ (a : Addr) (m n : Nat), vs = [.ref a, .int m] ∧ 1 ≤ m ∧ m ≤ 14 ∧ WellAt H a (n + 20) ∧
  ∀ H' p ws, H p = none → Same (hid a H) (hid a H') → WellAt H' a n → H' p = some (.tup (nts ws)) → ws.length = m → (∃ x ∈ ws, 0 < x) → (∀ x ∈ ws, x ≤ 20) → Q (.ref p) H'
theorem ok_l_weights (T : Txt K mg) : FnOk P w K mg base CX0 2 T.f_l_weights T.d_l_weights ["_law_well_here", "_law_many"] spDWts := by
  refine T.F_l_weights.ok sc_l_weights (fun vs H Q E h => ?_) (fun cdv A outer s H vs Q E hr h => ?_)
  · obtain ⟨a, m, n, rfl, _⟩ := h
    rfl
  · obtain ⟨a, m, n, rfl, m1, m14, hw, q⟩ := h
    refine ⟨_, (pss_cons (ps_set (i := 2) sc_l_weights.nd rfl (.inl rfl) (pe_call (ok_l_draw T) (hr.mono (by decide)) (by rfl) T.g_l_draw T.F_l_draw.kp T.b_l_draw .nil pass0 (pa_cons (pv 0) (pa_cons pe_int pa_nil))))
 (pss_cons (ps_set (i := 3) sc_l_weights.nd rfl (.inl rfl) (pe_op op_rep (pe_lst (pa_cons pe_int pa_nil)) (pv 1)))
 (pss_cons (ps_if (pt_cmpR op_lt (pv 2) pe_int (nomark _))
  (pss_one (ps_for PassesOwn.never rfl (pi_range1 (by rfl) T.z_range (pa_cons (pe_op op_add pe_int (pe_callTy call_int1 (by rfl) T.z_int (by decide +kernel) (pa_cons (pe_cmpR op_gt (pv 2) pe_int (nomark _)) pa_nil))) pa_nil)) (pg_name (i := 4) sc_l_weights.nd rfl (.inl rfl))
  (pss_cons (ps_set (i := 5) sc_l_weights.nd rfl (.inl rfl) (pe_call (ok_l_draw T) (hr.mono (by decide)) (by rfl) T.g_l_draw T.F_l_draw.kp T.b_l_draw .nil pass0 (pa_cons (pv 0) (pa_cons (pv 1) pa_nil))))
 (pss_one (ps_asg (pe_op op_add (pe_op op_add (pe_ix ix_list (pv 3) (pv 5) (fun _ _ => rfl)) pe_int) (pe_call (ok_l_draw T) (hr.mono (by decide)) (by rfl) T.g_l_draw T.F_l_draw.kp T.b_l_draw .nil pass0 (pa_cons (pv 0) (pa_cons pe_int pa_nil)))) (pg_sub (pv 3) (pv 5) set_list))))))
  (pss_one (ps_setLc (i := 3) (own := [("_law_room", 6)]) (g := (gName 6)) (tt := tYes) (by rfl) sc_l_weights.nd rfl rfl (sw_true rfl rfl rfl (by decide +kernel)) (pi_range1 (by rfl) T.z_range (pa_cons (pv 1) pa_nil)) (blkOk_by (own := [("_law_room", 6)]) (N := ["_law_well_here", "_law_many", "_law_way", "_law_found", "_law_k", "_law_at", "_law_room"]) (sc := defScope s_l_weights) (by decide +kernel)) (fun _ _ _ _ _ => by exact (pg_name (i := 6) sc_l_weights.nd rfl (.inl rfl))) (fun _ _ _ _ _ => by exact pts_nil) (fun _ _ _ _ _ => by exact (pe_call (ok_l_draw T) (hr.mono (by decide)) (by rfl) T.g_l_draw T.F_l_draw.kp T.b_l_draw .nil pass0 (pa_cons (pv 0) (pa_cons pe_int pa_nil)))))))
 (pss_cons (ps_if (pt_cmpR op_eq (pe_callB (cr_sum rfl) (by rfl) T.z_sum (by decide +kernel) (pa_cons (pv 3) pa_nil)) pe_int (nomark _))
  (pss_one (ps_asg pe_int (pg_sub (pv 3) (pe_call (ok_l_draw T) (hr.mono (by decide)) (by rfl) T.g_l_draw T.F_l_draw.kp T.b_l_draw .nil pass0 (pa_cons (pv 0) (pa_cons (pv 1) pa_nil))) set_list)))
  pss_nil)
 (pss_one (ps_ret (pe_callTy call_tuple_of (by rfl) T.z_tuple (by decide +kernel) (pa_cons (pv 3) pa_nil)))))))), ?_⟩
    have ml : ((m : Int)).natAbs.log2 < 9000 := log_small (by omega)
    refine ⟨_, rfl, a, 4, n + 19, rfl, hw, by decide, by decide, fun d H1 d0 d1 s1 w1 => ?_⟩
    refine ⟨by show 1 ≤ sizeLine; decide, fun l nl => ?_⟩
    obtain ⟨w2, s2⟩ := well_new (o := .lst [.int 0]) w1 nl
    refine ⟨_, rfl, l, _, _, rfl, rfl, upd_same, by omega, by omega, ?_, fun p np => ?_⟩
    · show 1 * (m : Int).toNat ≤ sizeLine
      rw [Int.toNat_natCast]
      exact Nat.le_of_lt (small1000 (by omega))
    rw [Int.toNat_natCast, flat_rep1]
    obtain ⟨w3, s3⟩ := well_new (o := .lst (List.replicate m (V.int 0))) w2 np
    have npa := w2.ne np
    have npH : H p = none := none_back (s1.trans s2) w2 np
    have s13 := s1.trans (s2.trans s3)
    have e3 : (upd (upd H1 l (.lst [.int 0])) p (.lst (List.replicate m (V.int 0)))) p = some (.lst (nts (List.replicate m 0))) := by
      rw [upd_same, nts, List.map_replicate]
      rfl
    generalize upd (upd H1 l (.lst [.int 0])) p (.lst (List.replicate m (V.int 0))) = H3 at *
    dsimp only [gName]
    refine seq_fin (fun σ H' => ∃ (z4 z5 z6 : Option V) (p : Addr) (ws : List Nat), σ = [some (.ref a), some (.int m), some (.int d), some (.ref p), z4, z5, z6] ∧ H p = none ∧ p ≠ a ∧ Same (hid a H) (hid a H') ∧ WellAt H' a (n + 1) ∧ H' p = some (.lst (nts ws)) ∧ ws.length = m ∧ ∀ x ∈ ws, x ≤ 12) (fun σ H' h => ?_) (fun fin => ?_)
    · obtain ⟨z4, z5, z6, p, ws, rfl, np, npa, sH, wH, e, l, b⟩ := h
      refine seq_fin (fun σ H' => ∃ (ws : List Nat), σ = [some (.ref a), some (.int m), some (.int d), some (.ref p), z4, z5, z6] ∧ Same (hid a H) (hid a H') ∧ WellAt H' a n ∧ H' p = some (.lst (nts ws)) ∧ ws.length = m ∧ (∃ x ∈ ws, 0 < x) ∧ ∀ x ∈ ws, x ≤ 12) (fun σ H' h => ?_) (fun fin => ?_)
      · obtain ⟨ws, rfl, s4, w4, e, l, px, b⟩ := h
        refine ⟨_, rfl, p, _, rfl, .inl ⟨SqL.of e, fun r nr => ?_⟩⟩
        have t := same_upd (o := .tup (nts ws)) nr
        exact q _ r ws (none_back s4 w4 nr) (s4.trans (hid_mono t)) (w4.same t) upd_same l px (fun x hx => Nat.le_trans (b x hx) (by decide))
      · refine ⟨_, rfl, p, ws.map (fun (n : Nat) => (n : Int)), rfl, SqL.of (by rw [e, nts_ints]), rfl, _, rfl, ite2 (fun h => ?_) (fun h => ?_)⟩
        · refine ⟨_, rfl, _, rfl, _, rfl, a, m, n, rfl, wH, by omega, ml, fun d H4 e0 e1 s4 w4 => ?_⟩
          have e4 : H4 p = some (.lst (nts ws)) := hid_same _ _ (s4 _ _ (by rw [hid_ne npa]; exact e))
          refine ⟨p, _, d, d.toNat, rfl, rfl, e4, ixn_lt e0 (by rw [nts_len, l]; exact e1), ?_⟩
          refine fin _ _ ⟨ws.set d.toNat 1, rfl, ?_, w4.upd npa, ?_, by rw [List.length_set, l], ⟨1, ?_, by decide⟩, fun x hx => ?_⟩
          · rw [hid_updN npa]
            exact same_over (sH.trans s4) (by rw [hid_ne npa]; exact np)
          · rw [upd_same, ← nts_set]
            rfl
          · exact List.mem_of_getElem? (i := d.toNat) (List.getElem?_set_self (by omega))
          · rcases mem_setN hx with h | h
            · exact b x h
            · omega
        · refine fin _ _ ⟨ws, rfl, sH, wH.mono (by omega), e, l, sum_pos fun z => ?_, b⟩
          rw [sum_nts, z] at h
          exact h rfl
    · refine ⟨_, rfl, _, _, rfl, rfl, _, rfl, ite2 (fun h => ?_) (fun h => ?_)⟩
      · refine ⟨_, rfl, _, _, rfl, rfl, .inr ⟨_, rfl, _, _, rfl, rfl, _, rfl, ?_, ?_, ?_⟩⟩
        · split <;> decide
        · split <;> decide
        obtain ⟨t, ht, t2⟩ : ∃ t : Nat, ((1 : Int) + if decide (0 < d) = true then 1 else 0).toNat = t ∧ t ≤ 2 := ⟨_, rfl, by split <;> decide⟩
        rw [ht]
        refine for_range (fun i σ H' => ∃ (z4 z5 z6 : Option V) (ws : List Nat), σ = [some (.ref a), some (.int m), some (.int d), some (.ref p), z4, z5, z6] ∧ Same (hid a H) (hid a H') ∧ WellAt H' a (n + 1 + 2 * (t - i)) ∧ H' p = some (.lst (nts ws)) ∧ ws.length = m ∧ ∀ x ∈ ws, x ≤ 6 * i) ⟨_, _, _, _, rfl, s13, w3.mono (by omega), e3, List.length_replicate, fun x hx => ?_⟩ (fun i σ H' hi h => ?_) (fun σ H' h => ?_)
        · rw [(List.mem_replicate.mp hx).2]
          exact Nat.zero_le _
        · obtain ⟨z4, z5, z6, ws, rfl, s4, w4, e4, l4, b4⟩ := h
          have hr : n + 1 + 2 * (t - i) = (n + 1 + 2 * (t - (i + 1))) + 1 + 1 := by omega
          rw [hr] at w4
          refine ⟨_, rfl, _, rfl, a, m, _, rfl, w4, by omega, ml, fun f H5 f0 f1 s5 w5 => ?_⟩
          have e5 : H5 p = some (.lst (nts ws)) := hid_same _ _ (s5 _ _ (by rw [hid_ne npa]; exact e4))
          obtain ⟨x, h1, h2⟩ := atI_get (xs := nts ws) f0 (by rw [nts_len, l4]; exact f1)
          obtain ⟨k, hk, rfl⟩ := nts_at h2
          refine ⟨_, rfl, _, rfl, p, _, f, _, rfl, rfl, SqL.of e5, h1, _, _, rfl, rfl, _, rfl, a, 5, _, rfl, w5, by decide, by decide, fun g H6 g0 g1 s6 w6 => ?_⟩
          have e6 : H6 p = some (.lst (nts ws)) := hid_same _ _ (s6 _ _ (by rw [hid_ne npa]; exact e5))
          refine ⟨_, _, rfl, rfl, _, rfl, _, rfl, p, _, f, f.toNat, rfl, rfl, e6, ixn_lt f0 (by rw [nts_len, l4]; exact f1), ?_⟩
          have ek : ((k : Int) + 1 + g) = ((k + 1 + g.toNat : Nat) : Int) := by omega
          refine ⟨_, _, _, ws.set f.toNat (k + 1 + g.toNat), rfl, ?_, w6.upd npa, by rw [upd_same, ← nts_set, ← ek], by rw [List.length_set, l4], fun x hx => ?_⟩
          · rw [hid_updN npa]
            exact same_over (s4.trans (s5.trans s6)) (by rw [hid_ne npa]; exact npH)
          · have := b4 k (List.mem_of_getElem? hk)
            rcases mem_setN hx with h | h
            · have := b4 x h
              omega
            · omega
        · obtain ⟨z4, z5, z6, ws, rfl, s4, w4, e4, l4, b4⟩ := h
          exact fin _ _ ⟨_, _, _, p, ws, rfl, npH, npa, s4, w4.mono (by omega), e4, l4, fun x hx => Nat.le_trans (b4 x hx) (by omega)⟩
      · refine ⟨_, rfl, m, rfl, by omega, by omega, fun D nD => lc_wellR (a := a) (fun v _ => ∃ k : Nat, k ≤ 12 ∧ v = .int k) (fun _ _ _ _ h => h) 1 (n + 1) nD (w3.mono (by rw [Int.toNat_natCast]; omega)) (by rw [Int.toNat_natCast]; omega) (fun i H4 f kk hi w4 s4 eD hk => ?_) (fun H4 ys s4 w4 e4 l4 r4 => ?_)⟩
        · refine ⟨rfl, _, rfl, a, 7, f, rfl, w4, by decide, by decide, fun g H5 g0 g1 s5 w5 => hk _ _ s5 w5 ⟨g.toNat, by omega, by rw [Int.toNat_of_nonneg g0]⟩⟩
        · obtain ⟨ws, rfl, lw, bw⟩ : ∃ ws : List Nat, ys = nts ws ∧ ws.length = ys.length ∧ ∀ x ∈ ws, x ≤ 12 := by
            clear e4 l4 s4
            induction ys with
            | nil => exact ⟨[], rfl, rfl, fun x hx => by cases hx⟩
            | cons y ys ih =>
              obtain ⟨ws, rfl, lw, bw⟩ := ih (fun y hy => r4 y (List.mem_cons_of_mem _ hy))
              obtain ⟨k, k12, rfl⟩ := r4 y List.mem_cons_self
              exact ⟨k :: ws, rfl, by rw [List.length_cons, List.length_cons, lw], fun x hx => by
                rcases List.mem_cons.mp hx with rfl | h
                · exact k12
                · exact bw x h⟩
          rw [Int.toNat_natCast] at l4
          have nDa := w3.ne nD
          have nDH := none_back s13 w3 nD
          refine fin _ _ ⟨_, _, _, D, ws, rfl, nDH, nDa, ?_, w4, e4, by omega, bw⟩
          exact s13.trans (s4.trans hid_same)
end

end Fb

namespace Fb
open PySem PySem.Spec PyProof.Rows L2
section
variable {P : Program} {w : World} {K : PySem.W.Frag} {mg : Str → Option Value} {base : Heap}
/-! ### tests of which it does not matter how they come out -/
def AnyT (t : TT) (σ : L2.St) (M0 M : Hp → Prop) : Prop := ∀ H, M0 H → ∀ Q : Bool → Hp → Prop, (∀ b H', M H' → Q b H') → t σ H Q
theorem or_any {t u : TT} {σ : L2.St} {M0 M1 M : Hp → Prop} (ht : AnyT t σ M0 M1) (hu : AnyT u σ M1 M) (wk : ∀ H, M1 H → M H) : AnyT (tOr t u) σ M0 M := fun H h Q hQ => ht H h _ fun b H' m => by
  cases b
  · exact iteF (hu H' m Q hQ)
  · exact iteT (hQ _ _ (wk _ m))
theorem and_any {t u : TT} {σ : L2.St} {M0 M1 M : Hp → Prop} (ht : AnyT t σ M0 M1) (hu : AnyT u σ M1 M) (wk : ∀ H, M1 H → M H) : AnyT (tAnd t u) σ M0 M := fun H h Q hQ => ht H h _ fun b H' m => by
  cases b
  · exact iteF (hQ _ _ (wk _ m))
  · exact iteT (hu H' m Q hQ)
theorem if_any {c : TT} {t u : L2.TS} {D : Ends} {σ : L2.St} {H : Hp} (M0 M : Hp → Prop) (h0 : M0 H) (hc : AnyT c σ M0 M) (ht : ∀ H', M H' → t D σ H') (hu : ∀ H', M H' → u D σ H') : tIfS c t u D σ H := hc H h0 _ fun b H' m => by
  cases b
  · exact iteF (hu H' m)
  · exact iteT (ht H' m)
/-! ### the law's machines -/
structure DS (m : Nat) (zs : List Str) (i j : Nat) (ss : List Stp) : Prop where
  len : ss.length ≤ i * zs.length + j
  all : ∀ s ∈ ss, StpOk m s ∧ s.sign ∈ zs ∧ (∀ x ∈ s.ws, x ≤ 20) ∧ (s.room < i ∨ (s.room = i ∧ ∃ k, k < j ∧ zs[k]? = some s.sign))
  once : (ss.map Stp.key).Nodup
theorem DS.next {m : Nat} {zs : List Str} {i j : Nat} {ss : List Stp} (h : DS m zs i j ss) : DS m zs i (j + 1) ss :=
  ⟨Nat.le_succ_of_le h.len, fun s hs => ⟨(h.all s hs).1, (h.all s hs).2.1, (h.all s hs).2.2.1, (h.all s hs).2.2.2.imp id fun ⟨e, k, l, g⟩ => ⟨e, k, Nat.lt_succ_of_lt l, g⟩⟩, h.once⟩
theorem DS.row {m : Nat} {zs : List Str} {i : Nat} {ss : List Stp} (h : DS m zs i zs.length ss) : DS m zs (i + 1) 0 ss :=
  ⟨by rw [Nat.succ_mul]; exact h.len, fun s hs => ⟨(h.all s hs).1, (h.all s hs).2.1, (h.all s hs).2.2.1, .inl ((h.all s hs).2.2.2.elim (fun l => Nat.lt_succ_of_lt l) fun ⟨e, _⟩ => by omega)⟩, h.once⟩
theorem twenty {x : Nat} (h : x ≤ 20) : x < 2 ^ 4000 := Nat.lt_of_lt_of_le (Nat.lt_of_le_of_lt h (by decide : 20 < 2 ^ 5)) (Nat.pow_le_pow_right (by decide) (by decide))
theorem DS.add {m k : Nat} {zs : List Str} {i j : Nat} {ss : List Stp} {z : Str} {ws : List Nat} (h : DS m zs i j ss) (ok : NmsOk k zs) (hi : i < m) (hz : zs[j]? = some z) (lw : ws.length = m) (pw : ∃ x ∈ ws, 0 < x) (bw : ∀ x ∈ ws, x ≤ 20) : DS m zs i (j + 1) (ss ++ [⟨i, z, ws⟩]) := by
  have hm := List.mem_of_getElem? hz
  refine ⟨?_, fun s hs => ?_, ?_⟩
  · rw [List.length_append, List.length_singleton]
    have := h.len
    omega
  · rcases List.mem_append.mp hs with hs | hs
    · exact h.next.all s hs
    · rw [List.mem_singleton] at hs
      subst hs
      exact ⟨⟨hi, ok.all _ hm, ⟨lw, pw, fun x hx => twenty (bw x hx)⟩⟩, hm, bw, .inr ⟨rfl, j, Nat.lt_succ_self _, hz⟩⟩
  · rw [List.map_append, List.nodup_append]
    refine ⟨h.once, by simp, fun a ha b hb => ?_⟩
    rw [List.map_singleton, List.mem_singleton] at hb
    subst hb
    rintro rfl
    obtain ⟨s, hs, e⟩ := List.mem_map.mp ha
    have e1 : (s.room : Int) = (i : Int) := congrArg Prod.fst e
    have e2 : s.sign = z := congrArg Prod.snd e
    rcases (h.all s hs).2.2.2 with l | ⟨_, k', lk, g⟩
    · omega
    · rw [e2] at g
      have := (List.getElem?_inj (List.getElem?_eq_some_iff.mp g).1 ok.nd).mp (g.trans hz.symm)
      omega
theorem IsStp.ts {H H' : Hp} {v : V} {s : Stp} (h : IsStp H v s) (t : TS H H') : IsStp H' v s := by
  obtain ⟨p, wa, e, h1, h2⟩ := h
  exact ⟨p, wa, e, t _ _ h1, t _ _ h2⟩
def spDMach : Sp := fun vs H Q _ => ∃ (a sp : Addr) (zs : List Str) (k m0 n : Nat), vs = [.ref a, .ref sp, .int m0] ∧ 1 ≤ m0 ∧ m0 ≤ 12 ∧ 1 ≤ k ∧ k ≤ 4 ∧ NmsOk k zs ∧ sp ≠ a ∧ H sp = some (.lst (zs.map V.str)) ∧ WellAt H a (n + 1200) ∧
  ∀ H' t l m vs ss, Same (hid a H) (hid a H') → WellAt H' a n → 1 ≤ m → m ≤ m0 → H' t = some (.tup [.int (m : Nat), .ref l]) → H t = none → H l = none → H' l = some (.lst vs) → AllAre (IsStp H') vs ss → DS m zs m 0 ss → Q (.ref t) H'
theorem ok_l_machine (T : Txt K mg) : FnOk P w K mg base CX0 3 T.f_l_machine T.d_l_machine ["_law_well_here", "_law_signs", "_law_most"] spDMach := by
  refine T.F_l_machine.ok sc_l_machine (fun vs H Q E h => ?_) (fun cdv A outer s H vs Q E hr h => ?_)
  · obtain ⟨a, sp, zs, k, m0, n, rfl, _⟩ := h
    rfl
  · obtain ⟨a, sp, zs, k, m0, n, rfl, m1, m12, k1, k4, ok, spa, hsp, hw, q⟩ := h
    refine ⟨_, (pss_cons (ps_set (i := 3) sc_l_machine.nd rfl (.inl rfl) (pe_op op_add pe_int (pe_call (ok_l_draw T) (hr.mono (by decide)) (by rfl) T.g_l_draw T.F_l_draw.kp T.b_l_draw .nil pass0 (pa_cons (pv 0) (pa_cons (pv 2) pa_nil)))))
 (pss_cons (ps_set (i := 4) sc_l_machine.nd rfl (.inl rfl) (pe_call (ok_l_draw T) (hr.mono (by decide)) (by rfl) T.g_l_draw T.F_l_draw.kp T.b_l_draw .nil pass0 (pa_cons (pv 0) (pa_cons pe_int pa_nil))))
 (pss_cons (ps_set (i := 5) sc_l_machine.nd rfl (.inl rfl) (pe_call (ok_l_draw T) (hr.mono (by decide)) (by rfl) T.g_l_draw T.F_l_draw.kp T.b_l_draw .nil pass0 (pa_cons (pv 0) (pa_cons (pe_op op_add (pv 3) pe_int) pa_nil))))
 (pss_cons (ps_set (i := 6) sc_l_machine.nd rfl (.inl rfl) (pe_call (ok_l_draw T) (hr.mono (by decide)) (by rfl) T.g_l_draw T.F_l_draw.kp T.b_l_draw .nil pass0 (pa_cons (pv 0) (pa_cons (pe_callB call_len_seq (by rfl) T.z_len (by decide +kernel) (pa_cons (pv 1) pa_nil)) pa_nil))))
 (pss_cons (ps_set (i := 7) sc_l_machine.nd rfl (.inl rfl) (pe_lst pa_nil))
 (pss_cons (ps_for PassesOwn.never rfl (pi_range1 (by rfl) T.z_range (pa_cons (pv 3) pa_nil)) (pg_name (i := 8) sc_l_machine.nd rfl (.inl rfl))
  (pss_one (ps_for PassesOwn.never rfl (pi_enum (by rfl) T.z_enumerate (pa_cons (pv 1) pa_nil)) (pg_tup (by rfl) (pgs_cons (pg_name (i := 9) sc_l_machine.nd rfl (.inl rfl)) (pgs_cons (pg_name (i := 10) sc_l_machine.nd rfl (.inl rfl)) pgs_nil)))
  (pss_one (ps_if (PW.pt (pw_or (PW.pt (pw_and (pt_cmpR op_lt (pv 4) pe_int (nomark _)) (pw_and1 (PW.pt (pw_or (pt_cmpR op_ne (pv 8) (pv 5) (nomark _)) (pw_or1 (pt_cmpR op_lt (pv 9) (pv 6) (nomark _)))))))) (pw_or1 (PW.pt (pw_and (pt_cmpR op_eq (pv 4) pe_int (nomark _)) (pw_and1 (pt_cmpR op_gt (pe_call (ok_l_draw T) (hr.mono (by decide)) (by rfl) T.g_l_draw T.F_l_draw.kp T.b_l_draw .nil pass0 (pa_cons (pv 0) (pa_cons pe_int pa_nil))) pe_int (nomark _))))))))
  (pss_one (ps_expr (pe_bm PySem.F.plainAttrs_list PySem.F.slot_list_append PySem.F.type_list_append mt_append (pv 7) (pa_cons (pe_tup (pa_cons (pv 8) (pa_cons (pv 10) (pa_cons (pe_call (ok_l_weights T) (hr.mono (by decide)) (by rfl) T.g_l_weights T.F_l_weights.kp T.b_l_weights .nil pass0 (pa_cons (pv 0) (pa_cons (pv 3) pa_nil))) pa_nil)))) pa_nil))))
  pss_nil)))))
 (pss_one (ps_ret (pe_tup (pa_cons (pv 3) (pa_cons (pv 7) pa_nil))))))))))), ?_⟩
    refine ⟨_, rfl, _, rfl, a, m0, n + 1199, rfl, hw, by omega, log_small (by omega), fun d H1 d0 d1 s1 w1 => ⟨_, _, rfl, rfl, ?_⟩⟩
    obtain ⟨m, hm⟩ : ∃ m : Nat, 1 + d = (m : Int) := ⟨(1 + d).toNat, by omega⟩
    dsimp only
    rw [hm]
    have mm1 : 1 ≤ m := by omega
    have mm2 : m ≤ m0 := by omega
    clear hm
    refine ⟨_, rfl, a, 3, n + 1198, rfl, w1, by decide, by decide, fun d2 H2 _ _ s2 w2 => ?_⟩
    refine ⟨_, rfl, _, rfl, _, _, rfl, rfl, a, _, n + 1197, rfl, w2, by omega, ?_, fun d3 H3 _ _ s3 w3 => ?_⟩
    · exact log_small (m := m + 1) (by omega)
    have s13 := s1.trans (s2.trans s3)
    have hsp3 : H3 sp = some (.lst (zs.map V.str)) := hid_same _ _ (s13 _ _ (by rw [hid_ne spa]; exact hsp))
    refine ⟨_, rfl, _, rfl, sp, _, rfl, .inl (SqL.of hsp3), a, _, n + 1196, rfl, w3, ?_, ?_, fun d4 H4 _ _ s4 w4 => ?_⟩
    · rw [List.length_map, ok.len]
      omega
    · rw [List.length_map, ok.len]
      exact log_small (by omega)
    refine ⟨Nat.zero_le _, fun pl npl => ?_⟩
    obtain ⟨w5, s5⟩ := well_new (o := .lst []) w4 npl
    have s14 := s13.trans s4
    have npH : H pl = none := none_back s14 w4 npl
    have npa := w4.ne npl
    have s15 := s14.trans s5
    let J : Nat → Nat → Hp → Prop := fun i j H' => ∃ (ss : List Stp) (vs : List V), Same (hid a H) (hid a H') ∧ WellAt H' a (n + 21 * ((m - i) * zs.length - j)) ∧ H' pl = some (.lst vs) ∧ AllAre (IsStp H') vs ss ∧ DS m zs i j ss
    refine ⟨_, rfl, m, rfl, by omega, by omega, for_range (fun i σ H' => ∃ z8 z9 z10, σ = [some (.ref a), some (.ref sp), some (.int m0), some (.int m), some (.int d2), some (.int d3), some (.int d4), some (.ref pl), z8, z9, z10] ∧ J i 0 H') ⟨_, _, _, rfl, [], [], s15, w5.mono ?_, upd_same, .nil, ⟨Nat.zero_le _, fun s hs => (by cases hs), List.nodup_nil⟩⟩ (fun i σ H6 hi h => ?_) (fun σ H6 h => ?_)⟩
    · rw [ok.len, Nat.sub_zero, Nat.sub_zero]
      have : m * k ≤ 12 * 4 := Nat.mul_le_mul (by omega) k4
      omega
    · obtain ⟨z8, z9, z10, rfl, hJ⟩ := h
      rw [Int.toNat_natCast] at hi
      have hsJ : ∀ {i j H'}, J i j H' → H' sp = some (.lst (zs.map V.str)) := fun ⟨_, _, s, _⟩ => hid_same _ _ (s _ _ (by rw [hid_ne spa]; exact hsp))
      refine ⟨_, rfl, sp, _, rfl, SqL.of (hsJ hJ), for_it (walk_enum (K := K) (a := sp) (xs := zs.map V.str)) (fun j σ H' => ∃ z9 z10, σ = [some (.ref a), some (.ref sp), some (.int m0), some (.int m), some (.int d2), some (.int d3), some (.int d4), some (.ref pl), some (.int (0 + (i : Nat))), z9, z10] ∧ J i j H') ⟨_, _, rfl, hJ⟩ (fun j σ H' _ h => ?_) (fun j v σ H7 H8 hj h y => ?_) (fun σ H' h => ?_)⟩
      · obtain ⟨_, _, _, h⟩ := h
        exact SqL.of (hsJ h)
      · obtain ⟨z9, z10, rfl, hJ⟩ := h
        obtain ⟨t, x, y, rfl, nt, rfl, ex, ey⟩ := y
        cases ex
        have ey : (zs.map V.str)[j]? = some y := ey
        rw [List.getElem?_map] at ey
        obtain ⟨z, hz, rfl⟩ := Option.map_eq_some_iff.mp ey
        rw [List.length_map] at hj
        obtain ⟨ss, vs, s7, w7, e7, a7, D7⟩ := hJ
        have st := same_upd (o := .tup [.int (j : Nat), .str z]) nt
        refine ⟨t, _, rfl, .inl (.inl upd_same), rfl, _, _, rfl, _, _, rfl, rfl, ?_⟩
        have hn : n + 21 * ((m - i) * zs.length - j) = (n + 21 * ((m - i) * zs.length - (j + 1))) + 21 := by
          have : 1 * zs.length ≤ (m - i) * zs.length := Nat.mul_le_mul_right _ (by omega)
          omega
        rw [hn] at w7
        obtain ⟨r, er⟩ : ∃ r, r = n + 21 * ((m - i) * zs.length - (j + 1)) := ⟨_, rfl⟩
        rw [← er] at w7
        refine if_any (fun H' => Same (hid a H7) (hid a H') ∧ WellAt H' a (r + 21)) (fun H' => Same (hid a H7) (hid a H') ∧ WellAt H' a (r + 20)) ⟨hid_mono st, w7.same st⟩ ?_ (fun H9 ⟨s9, w9⟩ => ?_) (fun H9 ⟨s9, w9⟩ => ?_)
        · refine or_any (M1 := fun H' => Same (hid a H7) (hid a H') ∧ WellAt H' a (r + 21)) (and_any (M1 := fun H' => Same (hid a H7) (hid a H') ∧ WellAt H' a (r + 21)) (fun H' h Q hQ => ⟨_, rfl, _, _, rfl, rfl, _, rfl, hQ _ _ h⟩) (or_any (M1 := fun H' => Same (hid a H7) (hid a H') ∧ WellAt H' a (r + 21)) (fun H' h Q hQ => ⟨_, rfl, _, rfl, rfl, _, rfl, hQ _ _ h⟩) (fun H' h Q hQ => ⟨_, rfl, _, rfl, _, _, rfl, rfl, _, rfl, hQ _ _ h⟩) (fun _ h => h)) (fun _ h => h)) (and_any (M1 := fun H' => Same (hid a H7) (hid a H') ∧ WellAt H' a (r + 21)) (fun H' h Q hQ => ⟨_, rfl, rfl, _, rfl, hQ _ _ h⟩) (fun H' h Q hQ => ⟨_, rfl, a, 3, r + 20, rfl, h.2, by decide, by decide, fun g H'' _ _ s w => ⟨_, _, rfl, rfl, _, rfl, hQ _ _ ⟨h.1.trans s, w⟩⟩⟩) (fun _ h => ⟨h.1, h.2.mono (by omega)⟩)) (fun _ h => ⟨h.1, h.2.mono (by omega)⟩)
        · have e9 : H9 pl = some (.lst vs) := hid_same _ _ (s9 _ _ (by rw [hid_ne npa]; exact e7))
          refine ⟨_, rfl, .inl ⟨rfl, _, SqL.of e9⟩, _, rfl, _, rfl, _, rfl, _, rfl, a, m, r, rfl, mm1, by omega, w9, fun H10 wa ws nwa s10 w10 ewa lw pw bw => ?_⟩
          refine ⟨by show 3 ≤ sizeLine; decide, fun t2 nt2 => ?_⟩
          have t10 := same_upd (o := .tup [.int (0 + (i : Nat)), .str z, .ref wa]) nt2
          have e11 : (upd H10 t2 (.tup [.int (0 + (i : Nat)), .str z, .ref wa])) pl = some (.lst vs) := t10 _ _ (hid_same _ _ (s10 _ _ (by rw [hid_ne npa]; exact e9)))
          have lv : vs.length < 60 := by
            rw [a7.1]
            have h1 := D7.len
            have h2 : i * zs.length ≤ 11 * zs.length := Nat.mul_le_mul_right _ (by omega)
            rw [ok.len] at h1 h2 hj
            omega
          refine ⟨pl, _, _, rfl, rfl, e11, small1000 (by omega), ?_⟩
          have s711 : Same (hid a H7) (hid a (upd H10 t2 (.tup [.int (0 + (i : Nat)), .str z, .ref wa]))) := s9.trans (s10.trans (hid_mono t10))
          have tt : TS H7 (upd H10 t2 (.tup [.int (0 + (i : Nat)), .str z, .ref wa])) := TS.well w7 s711
          have tl : TS (upd H10 t2 (.tup [.int (0 + (i : Nat)), .str z, .ref wa])) (upd (upd H10 t2 (.tup [.int (0 + (i : Nat)), .str z, .ref wa])) pl (.lst (vs ++ [.ref t2]))) := TS.lst e11
          refine ⟨_, _, rfl, ss ++ [⟨i, z, ws⟩], vs ++ [.ref t2], ?_, ?_, upd_same, ?_, D7.add ok (by omega) hz lw pw bw⟩
          · rw [hid_updN npa]
            exact same_over (s7.trans s711) (by rw [hid_ne npa]; exact npH)
          · rw [← er]
            exact (w10.same t10).upd npa
          · refine AllAre.snoc (a7.imp fun _ _ h => h.ts (tt.trans tl)) ⟨t2, wa, rfl, tl _ _ ?_, tl _ _ (t10 _ _ ewa)⟩
            rw [upd_same, Int.zero_add]
        · refine ⟨_, _, rfl, ss, vs, s7.trans s9, w9.mono (by rw [← er]; omega), hid_same _ _ (s9 _ _ (by rw [hid_ne npa]; exact e7)), a7.imp fun _ _ h => h.ts (TS.well w7 s9), D7.next⟩
      · obtain ⟨z9, z10, rfl, ss, vs, s7, w7, e7, a7, D7⟩ := h
        rw [List.length_map] at w7 D7
        refine ⟨_, _, _, rfl, ss, vs, s7, w7.mono ?_, e7, a7, D7.row⟩
        have : m - i = (m - (i + 1)) + 1 := by omega
        have e2 : (m - i) * zs.length = (m - (i + 1)) * zs.length + zs.length := by rw [this, Nat.add_mul, Nat.one_mul]
        omega
    · obtain ⟨z8, z9, z10, rfl, ss, vs, s7, w7, e7, a7, D7⟩ := h
      rw [Int.toNat_natCast] at w7 D7
      refine ⟨_, rfl, _, rfl, by show 2 ≤ sizeLine; decide, fun t nt => ?_⟩
      have st := same_upd (o := .tup [.int (m : Nat), .ref pl]) nt
      exact q _ t pl m vs ss (s7.trans (hid_mono st)) ((w7.same st).mono (by omega)) mm1 mm2 upd_same (none_back s7 w7 nt) npH (st _ _ e7) (a7.imp fun _ _ h => h.mono st) D7
end

end Fb

namespace Fb
open PySem PySem.Spec PyProof.Rows L2
section
variable {P : Program} {w : World} {K : PySem.W.Frag} {mg : Str → Option Value} {base : Heap}
/-! ### machines as values (the same as in T1, T2, N3, T4, without the trimming) -/
structure MOk (m : Nat) (out : List Stp) : Prop where
  ok : StpsOk m out
  up : Sorted out
  low : ∀ s ∈ out, Fb.low s.ws = s.ws
def IsMach (C : Addr) (H : Hp) (v : V) (m : Nat) (out : List Stp) : Prop := ∃ p dx r svs, v = .ref p ∧ H p = some (.ins C dx (mflds m r)) ∧ H r = some (.lst svs) ∧ AllAre (IsStp H) svs out
theorem IsMach.mono {C : Addr} {H H' : Hp} {v : V} {m : Nat} {out : List Stp} (h : IsMach C H v m out) (s : Same H H') : IsMach C H' v m out := by
  obtain ⟨p, dx, r, svs, e, h1, h2, a⟩ := h
  exact ⟨p, dx, r, svs, e, s _ _ h1, s _ _ h2, a.imp fun _ _ h => h.mono s⟩
theorem mk_mach {C : Addr} {H1 : Hp} {m : Nat} {v : V} {ss : List Stp} {E : XK} {Q : Addr → Hp → Prop} (hv : IsStps H1 v ss) (ok : StpsOk m ss) (q : ∀ H' x out, Same H1 H' → H1 x = none → IsMach C H' (.ref x) m out → SortedOf ss out → Q x H') :
    ∀ x dx, H1 x = none → H1 dx = none → dx ≠ x → spMach C [.ref x, .int m, v] (upd (upd H1 dx (.own x)) x (.ins C dx [])) (fun u H2 => u = .non ∧ Q x H2) E := by
  intro x dx nx nd ne
  have s0 : Same H1 (upd H1 dx (.own x)) := same_upd nd
  have s1 : Same H1 (upd (upd H1 dx (.own x)) x (.ins C dx [])) := s0.trans (same_upd (by rw [upd_ne (Ne.symm ne)]; exact nx))
  refine ⟨x, dx, m, v, ss, rfl, upd_same, hv.mono s1, ok, fun H' r svs out keep hp nr hr av so => ⟨rfl, q H' x out (fun a o e => keep a o (s1 _ _ e) (ne_of_none e nx)) nx ⟨x, dx, r, svs, rfl, hp, hr, av⟩ so⟩⟩
theorem filt_are {α : Type} {R : V → α → Prop} {p : α → Bool} {xs : List α} : ∀ (k : Nat) (ys : List V), k ≤ xs.length → AllAre (fun y (i : Nat) => ∃ s, xs[i]? = some s ∧ R y s) ys ((List.range k).filter fun i => (xs[i]?).any p) → AllAre R ys ((xs.take k).filter p)
  | 0, ys, _, h => by
    have : ys = [] := List.length_eq_zero_iff.mp h.1
    subst this
    exact .nil
  | k + 1, ys, hk, h => by
    have hx : xs[k]? = some xs[k] := List.getElem?_eq_getElem hk
    rw [List.range_succ, List.filter_append] at h
    rw [List.take_add_one, hx, List.filter_append]
    cases hp : p xs[k] with
    | false =>
      rw [List.filter_cons_of_neg (by rw [hx]; show ¬ (p xs[k] = true); rw [hp]; exact Bool.false_ne_true), List.filter_nil, List.append_nil] at h
      have e : ((some xs[k]).toList.filter p) = [] := by simp [hp]
      rw [e, List.append_nil]
      exact filt_are k ys (by omega) h
    | true =>
      rw [List.filter_cons_of_pos (by rw [hx]; exact hp), List.filter_nil] at h
      have e : ((some xs[k]).toList.filter p) = [xs[k]] := by simp [hp]
      rw [e]
      generalize hL : ((List.range k).filter fun i => (xs[i]?).any p) = L at h
      have hl : ys.length = L.length + 1 := by rw [h.1, List.length_append]; rfl
      have h1 := h.take L.length
      rw [List.take_left] at h1
      have h2 : AllAre R (ys.take L.length) ((xs.take k).filter p) := filt_are k _ (by omega) (by rw [hL]; exact h1)
      have hy : ys[L.length]? = some (ys[L.length]'(by omega)) := List.getElem?_eq_getElem (by omega)
      obtain ⟨s, es, rs⟩ := h.2 L.length _ k hy (by rw [List.getElem?_append_right (Nat.le_refl _), Nat.sub_self]; rfl)
      rw [hx] at es
      cases es
      have ey : ys = ys.take L.length ++ [ys[L.length]'(by omega)] := by
        rw [List.take_append_getElem (by omega), List.take_of_length_le (by omega)]
      rw [ey]
      exact h2.snoc rs
theorem IsStp.hid {H : Hp} {a : Addr} {n : Nat} {v : V} {s : Stp} (w : WellAt H a n) (h : IsStp H v s) : IsStp (Fb.hid a H) v s := by
  obtain ⟨t, wa, e, h1, h2⟩ := h
  exact ⟨t, wa, e, hid_keep w h1 (fun _ => nofun), hid_keep w h2 (fun _ => nofun)⟩
theorem stps_ne {H : Hp} {a r : Addr} {n : Nat} {svs : List V} {out : List Stp} (w : WellAt H a n) (h : H r = some (.lst svs)) (av : AllAre (IsStp H) svs out) : r ≠ a := fun z => by
  obtain ⟨w0, w1, w2, ew, _⟩ := w
  rw [z, ew] at h
  cases h
  obtain ⟨x, _, t, wa, e, _⟩ := av.at (i := 0) rfl
  cases e
theorem IsMach.hid {C : Addr} {H : Hp} {a : Addr} {n : Nat} {v : V} {m : Nat} {out : List Stp} (w : WellAt H a n) (h : IsMach C H v m out) : IsMach C (Fb.hid a H) v m out := by
  obtain ⟨p, dx, r, svs, e, h1, h2, av⟩ := h
  exact ⟨p, dx, r, svs, e, hid_keep w h1 (fun _ => nofun), by rw [hid_ne (stps_ne w h2 av)]; exact h2, av.imp fun _ _ h => h.hid w⟩
theorem one_low {ws : List Nat} (h : gcdF 0 ws = 1) : low ws = ws := by
  unfold low
  rw [h]
  have : (fun (x : Nat) => x / 1) = id := by
    funext x
    exact Nat.div_one x
  rw [this, List.map_id]
theorem gcdF_mul (c : Nat) : ∀ (l : List Nat) (g : Nat), gcdF (c * g) (l.map (c * ·)) = c * gcdF g l
  | [], g => rfl
  | n :: l, g => by
    show gcdF (Nat.gcd (c * n) (c * g)) (l.map (c * ·)) = c * gcdF (Nat.gcd n g) l
    rw [Nat.gcd_mul_left, gcdF_mul c l]
theorem low_back (ws : List Nat) : (low ws).map (gcdF 0 ws * ·) = ws := by
  unfold low
  rw [List.map_map]
  conv => rhs; rw [← List.map_id ws]
  exact List.map_congr_left fun n hn => Nat.mul_div_cancel' ((gcdF_dvd ws 0).2 n hn)
theorem low_gcd {ws : List Nat} (pos : ∃ n ∈ ws, 0 < n) : gcdF 0 (low ws) = 1 := by
  have g0 := gcdF_pos (g := 0) pos
  have h := gcdF_mul (gcdF 0 ws) (low ws) 0
  rw [Nat.mul_zero, low_back] at h
  have : gcdF 0 ws * gcdF 0 (low ws) = gcdF 0 ws * 1 := by rw [Nat.mul_one, ← h]
  exact Nat.eq_of_mul_eq_mul_left g0 this
theorem low_wts {m : Nat} {ws : List Nat} (h : WtsOk m ws) : WtsOk m (low ws) := by
  have g0 := gcdF_pos (g := 0) h.pos
  refine ⟨by unfold low; rw [List.length_map]; exact h.len, ?_, fun x hx => ?_⟩
  · obtain ⟨n, hn, n0⟩ := h.pos
    exact ⟨n / gcdF 0 ws, List.mem_map.mpr ⟨n, hn, rfl⟩, Nat.div_pos (Nat.le_of_dvd n0 ((gcdF_dvd ws 0).2 n hn)) g0⟩
  · obtain ⟨n, hn, rfl⟩ := List.mem_map.mp hx
    exact Nat.lt_of_le_of_lt (Nat.div_le_self _ _) (h.bd n hn)
theorem mok_of {m : Nat} {ss out : List Stp} (ok : StpsOk m ss) (so : SortedOf ss out) : MOk m out := by
  have p := so.1
  have key : (ss.map lowS).map Stp.key = ss.map Stp.key := by
    rw [List.map_map]
    rfl
  refine ⟨⟨ok.m1, ok.m12, by rw [p.length_eq, List.length_map]; exact ok.few, fun s hs => ?_, (p.map Stp.key).nodup_iff.mpr (by rw [key]; exact ok.once)⟩, so.2, fun s hs => ?_⟩
  · obtain ⟨s0, h0, rfl⟩ := List.mem_map.mp (p.mem_iff.mp hs)
    have o := ok.all s0 h0
    exact ⟨o.room, o.sign, low_wts o.wts⟩
  · obtain ⟨s0, h0, rfl⟩ := List.mem_map.mp (p.mem_iff.mp hs)
    exact one_low (low_gcd (ok.all s0 h0).wts.pos)
end

end Fb

namespace Fb
open PySem PySem.Spec PyProof.Rows L2
section
/-! ### of N2, what levels want without the trimming -/
theorem dvd_gcdF {d : Nat} : ∀ (l : List Nat) (g : Nat), d ∣ g → (∀ n ∈ l, d ∣ n) → d ∣ gcdF g l
  | [], g, hg, _ => hg
  | n :: l, g, hg, h => dvd_gcdF l (Nat.gcd n g) (Nat.dvd_gcd (h n List.mem_cons_self) hg) (fun x hx => h x (List.mem_cons_of_mem _ hx))
theorem getD_at {ws : List Nat} {t n : Nat} (h : ws[t]? = some n) : ws.getD t 0 = n := by
  rw [List.getD_eq_getElem?_getD, h]
  rfl
end

end Fb

namespace Fb
open PySem PySem.Spec PyProof.Rows L2
section
/-! ### grains: the mathematics -/
def grainF (g : Nat) : List Stp → Nat
  | [] => g
  | s :: r => grainF (g * (s.ws.sum / Nat.gcd g s.ws.sum)) r
theorem grainF_app : ∀ (a b : List Stp) (g : Nat), grainF g (a ++ b) = grainF (grainF g a) b
  | [], _, _ => rfl
  | _ :: r, b, _ => grainF_app r b _
theorem grainF_snoc (l : List Stp) (s : Stp) (g : Nat) : grainF g (l ++ [s]) = grainF g l * (s.ws.sum / Nat.gcd (grainF g l) s.ws.sum) := grainF_app l [s] g
theorem grainF_pos : ∀ {l : List Stp} {g : Nat}, 0 < g → (∀ s ∈ l, 0 < s.ws.sum) → 0 < grainF g l
  | [], _, h, _ => h
  | s :: r, g, h, p => by
    have h0 := p s List.mem_cons_self
    exact grainF_pos (l := r) (Nat.mul_pos h (Nat.div_pos (Nat.le_of_dvd h0 (Nat.gcd_dvd_right _ _)) (Nat.gcd_pos_of_pos_left _ h))) fun x hx => p x (List.mem_cons_of_mem _ hx)
theorem grainF_dvd : ∀ (l : List Stp) (g : Nat), g ∣ grainF g l ∧ ∀ s ∈ l, s.ws.sum ∣ grainF g l
  | [], g => ⟨Nat.dvd_refl _, fun s h => by cases h⟩
  | s :: r, g => by
    obtain ⟨h1, h2⟩ := grainF_dvd r (g * (s.ws.sum / Nat.gcd g s.ws.sum))
    refine ⟨Nat.dvd_trans (Nat.dvd_mul_right _ _) h1, fun x hx => ?_⟩
    rcases List.mem_cons.mp hx with rfl | hx
    · exact Nat.dvd_trans (den_dvd_step g _) h1
    · exact h2 x hx
theorem grainF_of {h : Nat} : ∀ {l : List Stp} {g : Nat}, g ∣ h → (∀ s ∈ l, s.ws.sum ∣ h) → grainF g l ∣ h
  | [], _, hg, _ => hg
  | s :: r, g, hg, hs => by
    refine grainF_of (l := r) ?_ fun x hx => hs x (List.mem_cons_of_mem _ hx)
    rw [← Nat.mul_div_assoc _ (Nat.gcd_dvd_right g _)]
    exact Nat.lcm_dvd hg (hs s List.mem_cons_self)
theorem grainF_lt {S : Nat} : ∀ {l : List Stp} {g a : Nat}, (∀ s ∈ l, s.ws.sum < 2 ^ S) → g < 2 ^ a → grainF g l < 2 ^ (a + S * l.length)
  | [], _, _, _, h => h
  | s :: r, g, a, hs, h => by
    have h1 : g * (s.ws.sum / Nat.gcd g s.ws.sum) < 2 ^ (a + S) := by
      rw [Nat.pow_add]
      exact Nat.lt_of_le_of_lt (Nat.mul_le_mul_left _ (Nat.div_le_self _ _)) (Nat.mul_lt_mul'' h (hs s List.mem_cons_self))
    have := grainF_lt (l := r) (fun x hx => hs x (List.mem_cons_of_mem _ hx)) h1
    rw [List.length_cons, Nat.mul_succ, show a + (S * r.length + S) = a + S + S * r.length by omega]
    exact this
theorem flat_split {α : Type} {ds : List (List α)} {i : Nat} {d : List α} (h : ds[i]? = some d) : (ds.take (i + 1)).flatten = (ds.take i).flatten ++ d := by
  rw [List.take_add_one, h, List.flatten_append]
  show _ ++ [d].flatten = _
  rw [List.flatten_cons, List.flatten_nil, List.append_nil]
theorem mem_flat {α : Type} {ds : List (List α)} {d : List α} {x : α} (h : d ∈ ds) (hx : x ∈ d) : x ∈ ds.flatten := List.mem_flatten.mpr ⟨d, h, hx⟩
/-- what is done so far divides, and is no more than, the whole -/
theorem grain_le {A B C : List Stp} (e : A ++ B = C) (p : ∀ s ∈ C, 0 < s.ws.sum) : 0 < grainF 1 A ∧ grainF 1 A ≤ grainF 1 C := by
  subst e
  have h0 := grainF_pos (l := A ++ B) (g := 1) Nat.one_pos p
  rw [grainF_app] at h0 ⊢
  exact ⟨grainF_pos Nat.one_pos fun s hs => p s (List.mem_append_left _ hs), Nat.le_of_dvd h0 (grainF_dvd B _).1⟩
end
section
variable {P : Program} {w : World} {K : PySem.W.Frag} {mg : Str → Option Value} {base : Heap}
/-! ### doors -/
def IsKw (H : Hp) (kv : Key × V) (s : Stp) : Prop := ∃ wa, kv = (.inr s.sign, .ref wa) ∧ H wa = some (.tup (nts s.ws))
def AreKw (H : Hp) (kvs : List (Key × V)) (d : List Stp) : Prop := kvs.length = d.length ∧ ∀ (i : Nat) kv s, kvs[i]? = some kv → d[i]? = some s → IsKw H kv s
theorem AreKw.at {H : Hp} {kvs : List (Key × V)} {d : List Stp} (h : AreKw H kvs d) {i : Nat} {kv : Key × V} (e : kvs[i]? = some kv) : ∃ s, d[i]? = some s ∧ IsKw H kv s := by
  have hi : i < d.length := by
    have := (List.getElem?_eq_some_iff.mp e).1
    rw [← h.1]
    exact this
  exact ⟨d[i], List.getElem?_eq_getElem hi, h.2 i kv _ e (List.getElem?_eq_getElem hi)⟩
theorem AreKw.imp {H H' : Hp} {kvs : List (Key × V)} {d : List Stp} (h : AreKw H kvs d) (f : ∀ (wa : Addr) (xs : List V), H wa = some (.tup xs) → H' wa = some (.tup xs)) : AreKw H' kvs d :=
  ⟨h.1, fun i kv s a b => (h.2 i kv s a b).imp fun _ g => ⟨g.1, f _ _ g.2⟩⟩
def IsDoor (H : Hp) (v : V) (d : List Stp) : Prop := ∃ p kvs, v = .ref p ∧ H p = some (.dK kvs) ∧ AreKw H kvs d
theorem IsDoor.mono {H H' : Hp} {v : V} {d : List Stp} (h : IsDoor H v d) (s : Same H H') : IsDoor H' v d := by
  obtain ⟨p, kvs, e, h, a⟩ := h
  exact ⟨p, kvs, e, s _ _ h, a.imp fun _ _ e => s _ _ e⟩
theorem sum_ints (ws : List Nat) : (ws.map fun (n : Nat) => (n : Int)).sum = ((ws.sum : Nat) : Int) := sum_nts ws
theorem nts_i (ws : List Nat) : nts ws = (ws.map fun (n : Nat) => (n : Int)).map V.int := nts_ints
theorem le_sum' : ∀ {ws : List Nat} {n : Nat}, n ∈ ws → n ≤ ws.sum
  | x :: ws, n, h => by
    rw [List.sum_cons]
    rcases List.mem_cons.mp h with rfl | h
    · omega
    · have := le_sum' h
      omega
def spGrain : Sp := fun vs H Q _ => ∃ (p : Addr) (xs : List V) (ds : List (List Stp)), vs = [.ref p] ∧ H p = some (.lst xs) ∧ AllAre (IsDoor H) xs ds ∧ (∀ s ∈ ds.flatten, 0 < s.ws.sum) ∧ grainF 1 ds.flatten < 2 ^ 8001 ∧ Q (.int (grainF 1 ds.flatten : Nat)) H
theorem ok_p_grain_of (T : Txt K mg) : FnOk P w K mg base CX0 3 T.f_p_grain_of T.d_p_grain_of ["doors"] spGrain := by
  refine T.F_p_grain_of.ok sc_p_grain_of (fun vs H Q E h => ?_) (fun cdv A outer s H vs Q E hr h => ?_)
  · obtain ⟨p, xs, ds, rfl, _⟩ := h
    rfl
  · obtain ⟨p, xs, ds, rfl, hp, aa, pos, lt, q⟩ := h
    refine ⟨_, (pss_cons (ps_set (i := 1) sc_p_grain_of.nd rfl (.inl rfl) pe_int)
 (pss_cons (ps_for PassesOwn.never rfl (pi_list (pv 0)) (pg_name (i := 2) sc_p_grain_of.nd rfl (.inl rfl))
  (pss_one (ps_lock (ps_for PassesOwn.never rfl (pi_values (pv 2)) (pg_name (i := 3) sc_p_grain_of.nd rfl (.inl rfl))
  (pss_one (ps_set (i := 1) sc_p_grain_of.nd rfl (.inl rfl) (pe_call (ok_p_common_multiple T) (hr.mono (by decide)) (by rfl) T.g_p_common_multiple T.F_p_common_multiple.kp T.b_p_common_multiple .nil pass0 (pa_cons (pv 1) (pa_cons (pe_callB (cr_sumTK (K := K) rfl rfl) (by rfl) T.z_sum (by decide +kernel) (pa_cons (pv 3) pa_nil)) pa_nil)))))))))
 (pss_one (ps_ret (pv 1))))), ?_⟩
    refine ⟨_, rfl, p, rfl, ⟨_, SqL.of hp⟩, for_list (K := K) (a := p) (xs := xs) (fun i σ H' => ∃ y2 y3, σ = [some (.ref p), some (.int (grainF 1 (ds.take i).flatten : Nat)), y2, y3] ∧ H' = H) ⟨none, none, rfl, rfl⟩ (fun i σ H' _ h => ?_) (fun i x σ H' hi h => ?_) (fun σ H' h => ?_)⟩
    · obtain ⟨y2, y3, _, rfl⟩ := h
      exact SqL.of hp
    · obtain ⟨y2, y3, rfl, rfl⟩ := h
      obtain ⟨d, hd, pd, kvs, rfl, hpd, ak⟩ := aa.at hi
      have hm := List.mem_of_getElem? hd
      refine ⟨pd, .dK kvs, hpd, trivial, fun od => ?_⟩
      have eF : (upd H' pd (.frz od (.dK kvs))) pd = some (.frz od (.dK kvs)) := upd_same
      have akF : AreKw (upd H' pd (.frz od (.dK kvs))) kvs d := ak.imp fun wa ys e => frz_ne hpd e (fun z => by cases z)
      have back : upd (upd H' pd (.frz od (.dK kvs))) pd (.dK kvs) = H' := upd_back hpd
      generalize upd H' pd (.frz od (.dK kvs)) = F at *
      refine ⟨_, rfl, pd, od, kvs, rfl, eF, for_it (walk_values (d := pd) (o := od) (kvs := kvs)) (fun j σ G => ∃ y3, σ = [some (.ref p), some (.int (grainF 1 ((ds.take i).flatten ++ d.take j) : Nat)), some (.ref pd), y3] ∧ G = F) ⟨y3, by rw [List.take_zero, List.append_nil]; rfl, rfl⟩ (fun j σ G _ h => ?_) (fun j x σ G G' hj h y => ?_) (fun σ G h => ?_)⟩
      · obtain ⟨_, _, rfl⟩ := h
        exact eF
      · obtain ⟨y3, rfl, rfl⟩ := h
        obtain ⟨rfl, k, hk⟩ := y
        obtain ⟨st, hst, wa, ekv, hw⟩ := akF.at hk
        cases ekv
        have hsm : st ∈ ds.flatten := mem_flat hm (List.mem_of_getElem? hst)
        have s0 := pos st hsm
        have e1 : (ds.take i).flatten ++ d.take (j + 1) = ((ds.take i).flatten ++ d.take j) ++ [st] := by
          rw [List.take_add_one, hst, List.append_assoc]
          rfl
        have spl : ((ds.take i).flatten ++ d.take j) ++ (d.drop j ++ (ds.drop (i + 1)).flatten) = ds.flatten := by
          rw [List.append_assoc, ← List.append_assoc (d.take j), List.take_append_drop, ← List.append_assoc, ← flat_split hd, ← List.flatten_append, List.take_append_drop]
        obtain ⟨g0, g1⟩ := grain_le spl pos
        have sl : st.ws.sum ≤ grainF 1 ds.flatten := Nat.le_of_dvd (grainF_pos Nat.one_pos pos) ((grainF_dvd ds.flatten 1).2 st hsm)
        have hw' : G' wa = some (.tup ((st.ws.map fun (n : Nat) => (n : Int)).map V.int)) := by
          rw [← nts_i]
          exact hw
        refine ⟨_, rfl, _, rfl, wa, _, rfl, .inl (.inl hw'), ?_⟩
        rw [sum_ints]
        refine ⟨_, st.ws.sum, rfl, g0, s0, Nat.lt_of_le_of_lt g1 lt, Nat.lt_of_le_of_lt sl lt, ?_⟩
        refine ⟨some (.ref wa), ?_, rfl⟩
        rw [e1, grainF_snoc]
        rfl
      · obtain ⟨y3, rfl, rfl⟩ := h
        rw [show kvs.length = d.length from ak.1, List.take_length, ← flat_split hd]
        exact ⟨eF, _, _, rfl, back⟩
    · obtain ⟨y2, y3, rfl, rfl⟩ := h
      refine ⟨_, rfl, ?_⟩
      rw [aa.1, List.take_length]
      exact q
end

end Fb

namespace Fb
open PySem PySem.Spec PyProof.Rows L2
section
variable {P : Program} {w : World} {K : PySem.W.Frag} {mg : Str → Option Value} {base : Heap}
/-! ### levels -/
def spEven : Sp := fun vs H Q _ => ∃ k m : Nat, vs = [.int k, .int m] ∧ m ≤ 900 ∧ ∀ H' t a, Same H H' → H' t = some (.tup [.ref a, .int 1]) → H' a = some (.lst (nts (List.replicate m k))) → Q (.ref t) H'
theorem ok_p_even_level (T : Txt K mg) : FnOk P w K mg base CX0 1 T.f_p_even_level T.d_p_even_level ["number", "many"] spEven := by
  refine T.F_p_even_level.ok sc_p_even_level (fun vs H Q E h => ?_) (fun cdv A outer s H vs Q E hr h => ?_)
  · obtain ⟨k, m, rfl, _⟩ := h
    rfl
  · obtain ⟨k, m, rfl, m9, q⟩ := h
    refine ⟨_, (pss_one (ps_ret (pe_tup (pa_cons (pe_lc (own := [("room", 2)]) (g := (gName 2)) (tt := tYes) (by rfl) sc_p_even_level.nd (pi_range1 (by rfl) T.z_range (pa_cons (pv 1) pa_nil)) (blkOk_by (own := [("room", 2)]) (N := ["number", "many", "room"]) (sc := defScope s_p_even_level) (by decide +kernel)) (fun _ _ _ _ _ => by exact (pg_name (i := 2) sc_p_even_level.nd rfl (.inl rfl))) (fun _ _ _ _ _ => by exact pts_nil) (fun _ _ _ _ _ => by exact (pv 0))) (pa_cons pe_int pa_nil))))), ?_⟩
    refine ⟨_, rfl, m, rfl, by omega, by omega, fun D nD => lc_allW (walk_range (lo := 0) (n := (m : Int).toNat)) (fun _ y _ => y = .int (k : Nat)) (fun _ _ _ _ _ h => h) nD (fun _ _ => trivial) (by omega) (fun i x H2 H3 kk hi s2 eD y hk => ?_) (fun H2 ys s2 e l r => ?_)⟩
    · obtain ⟨rfl, rfl⟩ := y
      exact ⟨rfl, _, rfl, hk _ _ (Same.refl _) rfl⟩
    · have ey : ys = nts (List.replicate m k) := by
        refine List.ext_getElem? fun i => ?_
        rw [Int.toNat_natCast] at l
        by_cases hi : i < ys.length
        · rw [List.getElem?_eq_getElem hi, r i _ (List.getElem?_eq_getElem hi), List.getElem?_map, List.getElem?_replicate, if_pos (by omega)]
          rfl
        · rw [List.getElem?_eq_none (by omega), List.getElem?_eq_none (by rw [nts_len, List.length_replicate]; omega)]
      rw [ey] at e
      refine ⟨by show 2 ≤ sizeLine; decide, fun t nt => ?_⟩
      have st := same_upd (o := .tup [.ref D, .int 1]) nt
      exact q _ t D ((s2.trans hid_same).trans st) upd_same (st _ _ e)
theorem gcdF_one : ∀ l : List Nat, gcdF 1 l = 1
  | [] => rfl
  | n :: l => by
    show gcdF (Nat.gcd n 1) l = 1
    rw [Nat.gcd_one_right]
    exact gcdF_one l
theorem gcdF_app' : ∀ (l l' : List Nat) (g : Nat), gcdF g (l ++ l') = gcdF (gcdF g l) l'
  | [], _, _ => rfl
  | _ :: l, l', _ => gcdF_app' l l' _
def spShp : Sp := fun vs H Q _ => ∃ (a : Addr) (ts : List Nat) (c : Nat), vs = [.ref a, .int c] ∧ H a = some (.lst (nts ts)) ∧ Q (.int (gcdF c ts : Nat)) H
theorem ok_p_shared_part (T : Txt K mg) : FnOk P w K mg base CX0 2 T.f_p_shared_part T.d_p_shared_part ["tops", "common"] spShp := by
  refine T.F_p_shared_part.ok sc_p_shared_part (fun vs H Q E h => ?_) (fun cdv A outer s H vs Q E hr h => ?_)
  · obtain ⟨a, ts, c, rfl, _⟩ := h
    rfl
  · obtain ⟨a, ts, c, rfl, ha, q⟩ := h
    refine ⟨_, (pss_cons (ps_for PassesOwn.never rfl (pi_list (pv 0)) (pg_name (i := 2) sc_p_shared_part.nd rfl (.inl rfl))
  (pss_cons (ps_if (pt_cmpR op_eq (pv 1) pe_int (nomark _))
  (pss_one (ps_ret pe_int))
  pss_nil)
 (pss_one (ps_set (i := 1) sc_p_shared_part.nd rfl (.inl rfl) (pe_call (ok_p_common_part T) (hr.mono (by decide)) (by rfl) T.g_p_common_part T.F_p_common_part.kp T.b_p_common_part .nil pass0 (pa_cons (pv 2) (pa_cons (pv 1) pa_nil)))))))
 (pss_one (ps_ret (pv 1)))), ?_⟩
    refine ⟨_, rfl, a, rfl, ⟨_, SqL.of ha⟩, for_list (K := K) (a := a) (xs := nts ts) (fun i σ H' => ∃ y, σ = [some (.ref a), some (.int (gcdF c (ts.take i) : Nat)), y] ∧ H' = H) ⟨none, rfl, rfl⟩ (fun i σ H' _ h => ?_) (fun i x σ H' hi h => ?_) (fun σ H' h => ?_)⟩
    · obtain ⟨y, _, rfl⟩ := h
      exact SqL.of ha
    · obtain ⟨y, rfl, rfl⟩ := h
      obtain ⟨n, hn, rfl⟩ := nts_at hi
      refine ⟨_, rfl, rfl, _, rfl, ite2 (fun e => ?_) (fun _ => ?_)⟩
      · have e1 : gcdF c (ts.take i) = 1 := by
          have := V.int.inj (of_decide_eq_true e)
          omega
        have e2 : gcdF c ts = 1 := by
          rw [← List.take_append_drop i ts, gcdF_app', e1, gcdF_one]
        rw [e2] at q
        exact q
      · refine ⟨_, rfl, _, rfl, (n : Int), (gcdF c (ts.take i) : Nat), rfl, some (.int n), ?_, rfl⟩
        rw [List.take_add_one, hn]
        show _ = [some (V.ref a), some (.int (gcdF c (ts.take i ++ [n]) : Nat)), _]
        rw [gcdF_snoc, Int.gcd_natCast_natCast]
        rfl
    · obtain ⟨y, rfl, rfl⟩ := h
      refine ⟨_, rfl, ?_⟩
      rw [nts_len, List.take_length]
      exact q
theorem gcdF_is (c : Nat) (ts : List Nat) : (gcdF c ts ∣ c ∧ ∀ n ∈ ts, gcdF c ts ∣ n) ∧ ∀ e, e ∣ c → (∀ n ∈ ts, e ∣ n) → e ∣ gcdF c ts := ⟨gcdF_dvd ts c, fun _ h1 h2 => dvd_gcdF ts c h1 h2⟩
def spLowd : Sp := fun vs H Q _ => ∃ (t a : Addr) (b g : Nat) (ts : List Nat), vs = [.ref t, .int g] ∧ H t = some (.tup [.ref a, .int b]) ∧ H a = some (.lst (nts ts)) ∧ 0 < b ∧ b < 2 ^ 8001 ∧ ts.length ≤ 900 ∧
  ∀ H' t' a' b' ts' k, Same H H' → H' t' = some (.tup [.ref a', .int (b' : Nat)]) → H' a' = some (.lst (nts ts')) → 0 < k → ts = ts'.map (k * ·) → b = k * b' → (∀ e, (∀ n ∈ ts', e ∣ n) → e ∣ b' → e ∣ g → e = 1) → Q (.ref t') H'
theorem ok_p_lowered (T : Txt K mg) : FnOk P w K mg base CX0 3 T.f_p_lowered T.d_p_lowered ["level", "grain"] spLowd := by
  refine T.F_p_lowered.ok sc_p_lowered (fun vs H Q E h => ?_) (fun cdv A outer s H vs Q E hr h => ?_)
  · obtain ⟨t, a, b, g, ts, rfl, _⟩ := h
    rfl
  · obtain ⟨t, a, b, g, ts, rfl, ht, ha, b0, b1, l9, q⟩ := h
    refine ⟨_, (pss_cons (ps_asg (pv 0) (pg_tup (by rfl) (pgs_cons (pg_name (i := 2) sc_p_lowered.nd rfl (.inl rfl)) (pgs_cons (pg_name (i := 3) sc_p_lowered.nd rfl (.inl rfl)) pgs_nil))))
 (pss_cons (ps_set (i := 4) sc_p_lowered.nd rfl (.inr rfl) (pe_call (ok_p_shared_part T) (hr.mono (by decide)) (by rfl) T.g_p_shared_part T.F_p_shared_part.kp T.b_p_shared_part .nil pass0 (pa_cons (pv 2) (pa_cons (pe_call (ok_p_common_part T) (hr.mono (by decide)) (by rfl) T.g_p_common_part T.F_p_common_part.kp T.b_p_common_part .nil pass0 (pa_cons (pv 3) (pa_cons (pv 1) pa_nil))) pa_nil))))
 (pss_cons (ps_while PassesOwn.never (pt_cmpR op_gt (pv 4) pe_int (nomark _))
  (pss_cons (ps_setLc (i := 2) (own := [("top", 5)]) (g := (gName 5)) (tt := tYes) (by rfl) sc_p_lowered.nd rfl rfl (sw_true rfl rfl rfl (by decide +kernel)) (pi_list (pv 2)) (blkOk_by (own := [("top", 5)]) (N := ["level", "grain", "tops", "bottom", "common", "top"]) (sc := defScope s_p_lowered) (by decide +kernel)) (fun _ _ _ _ _ => by exact (pg_name (i := 5) sc_p_lowered.nd rfl (.inl rfl))) (fun _ _ _ _ _ => by exact pts_nil) (fun _ _ _ _ _ => by exact (pe_op op_fdivW (pv 5) (pv 4))))
 (pss_cons (ps_aug (i := 3) sc_p_lowered.nd rfl (.inl rfl) (pv 4) ip_fdivW)
 (pss_one (ps_set (i := 4) sc_p_lowered.nd rfl (.inr rfl) (pe_call (ok_p_shared_part T) (hr.mono (by decide)) (by rfl) T.g_p_shared_part T.F_p_shared_part.kp T.b_p_shared_part .nil pass0 (pa_cons (pv 2) (pa_cons (pe_call (ok_p_common_part T) (hr.mono (by decide)) (by rfl) T.g_p_common_part T.F_p_common_part.kp T.b_p_common_part .nil pass0 (pa_cons (pv 3) (pa_cons (pv 4) pa_nil))) pa_nil))))))))
 (pss_one (ps_ret (pe_tup (pa_cons (pv 2) (pa_cons (pv 3) pa_nil)))))))), ?_⟩
    refine ⟨_, rfl, t, _, rfl, .inl (.inl ht), rfl, _, _, rfl, _, _, rfl, rfl, ?_⟩
    refine ⟨_, rfl, _, rfl, _, rfl, (b : Int), (g : Int), rfl, ?_⟩
    rw [Int.gcd_natCast_natCast]
    refine ⟨a, ts, Nat.gcd b g, rfl, ha, ?_⟩
    obtain ⟨⟨c1, c2⟩, c3⟩ := gcdF_is (Nat.gcd b g) ts
    refine ⟨fun m σ H' => ∃ (a' : Addr) (b' c k : Nat) (us : List Nat) (y : Option V), σ = [some (.ref t), some (.int g), some (.ref a'), some (.int b'), some (.int c), y] ∧ m = b' ∧ Same H H' ∧ H' a' = some (.lst (nts us)) ∧ 0 < b' ∧ 0 < k ∧ ts = us.map (k * ·) ∧ b = k * b' ∧ c ∣ b' ∧ (∀ n ∈ us, c ∣ n) ∧ ∀ e, (∀ n ∈ us, e ∣ n) → e ∣ b' → e ∣ g → e ∣ c,
      ⟨b, a, b, _, 1, ts, none, rfl, rfl, Same.refl _, ha, b0, Nat.one_pos, ?_, (Nat.one_mul b).symm, Nat.dvd_trans c1 (Nat.gcd_dvd_left _ _), c2, fun e h1 h2 h3 => c3 e (Nat.dvd_gcd h2 h3) h1⟩, fun m σ H' hW => ?_⟩
    · have : (fun (x : Nat) => 1 * x) = id := by
        funext x
        exact Nat.one_mul x
      rw [this, List.map_id]
    clear c1 c2 c3
    obtain ⟨a', b', c, k, us, y, rfl, rfl, s1, ha', b0', k0, eu, eb, cb, cu, ce⟩ := hW
    have c0 : 0 < c := Nat.pos_of_dvd_of_pos cb b0'
    have bl : m ≤ b := by
      rw [eb]
      exact Nat.le_mul_of_pos_left _ k0
    refine ⟨_, rfl, _, _, rfl, rfl, _, rfl, ?_⟩
    by_cases hc : 1 < c
    · rw [decide_eq_true (show (c : Int) > 1 by omega)]
      refine iteT ?_
      have cl : c ≤ m := Nat.le_of_dvd b0' cb
      have cd : CDivW 0 (c : Int) := wide_div (by omega) (nat_abs (Nat.lt_of_le_of_lt (Nat.le_trans cl bl) b1)) (by decide) (by decide)
      refine ⟨fun σ' H'' => ∃ (a2 : Addr) (y : Option V), σ' = [some (.ref t), some (.int g), some (.ref a2), some (.int (m / c : Nat)), some (.int (gcdF (Nat.gcd (m / c) c) (us.map (· / c)) : Nat)), y] ∧ Same H H'' ∧ H'' a2 = some (.lst (nts (us.map (· / c)))), fun σ' H'' h => ?_, ?_⟩
      · obtain ⟨a2, y, rfl, s2, h2⟩ := h
        obtain ⟨⟨c1, c2⟩, c3⟩ := gcdF_is (Nat.gcd (m / c) c) (us.map (· / c))
        have ec : c * (m / c) = m := Nat.mul_div_cancel' cb
        have eus : us = (us.map (· / c)).map (c * ·) := by
          rw [List.map_map]
          conv => lhs; rw [← List.map_id us]
          exact List.map_congr_left fun n hn => (Nat.mul_div_cancel' (cu n hn)).symm
        have up : ∀ {e n : Nat}, n ∈ us → e ∣ n / c → e ∣ n := fun {e n} hn h => by
          have := Nat.dvd_trans h (Nat.dvd_mul_left _ c)
          rwa [Nat.mul_div_cancel' (cu n hn)] at this
        refine ⟨_, Nat.div_lt_self b0' hc, a2, _, _, k * c, _, y, rfl, rfl, s2, h2, Nat.div_pos cl c0, Nat.mul_pos k0 c0, ?_, ?_, Nat.dvd_trans c1 (Nat.gcd_dvd_left _ _), c2, fun e h1 h2 h3 => c3 e (Nat.dvd_gcd h2 ?_) h1⟩
        · rw [eu]
          conv => lhs; rw [eus, List.map_map]
          refine List.map_congr_left fun n _ => ?_
          show k * (c * n) = k * c * n
          rw [Nat.mul_assoc]
        · rw [eb, Nat.mul_assoc, ec]
        · refine ce e (fun n hn => up hn (h1 _ (List.mem_map.mpr ⟨n, hn, rfl⟩))) ?_ h3
          have := Nat.dvd_trans h2 (Nat.dvd_mul_left (m / c) c)
          rwa [ec] at this
      · have lu : us.length ≤ 900 := by
          have := congrArg List.length eu
          rw [List.length_map] at this
          omega
        refine ⟨_, rfl, a', rfl, ⟨_, SqL.of ha'⟩, fun D nD => lc_allW (walk_list (K := K) (a := a') (xs := nts us)) (fun i y _ => ∃ n, us[i]? = some n ∧ y = .int ((n / c : Nat))) (fun _ _ _ _ _ h => h) nD (fun H' s => SqL.of (s _ _ ha')) (by rw [nts_len]; omega) (fun i v H2 H3 kk hi s2 eD y hk => ?_) (fun H2 ys s2 e l r => ?_)⟩
        · obtain ⟨rfl, hv⟩ := y
          obtain ⟨n, hn, rfl⟩ := nts_at hv
          refine ⟨rfl, _, rfl, _, rfl, _, _, rfl, rfl, cd, hk _ _ (Same.refl _) ⟨n, hn, ?_⟩⟩
          dsimp only
          rw [Int.natCast_ediv]
        · have ey : ys = nts (us.map (· / c)) := by
            rw [nts_len] at l
            refine List.ext_getElem? fun i => ?_
            by_cases hi : i < ys.length
            · obtain ⟨n, hn, hy⟩ := r i _ (List.getElem?_eq_getElem hi)
              rw [List.getElem?_eq_getElem hi, hy]
              unfold nts
              rw [List.map_map, List.getElem?_map, hn]
              rfl
            · rw [List.getElem?_eq_none (by omega), List.getElem?_eq_none (by rw [nts_len, List.length_map]; omega)]
          rw [ey] at e
          have s2' : Same H H2 := s1.trans (s2.trans hid_same)
          refine ⟨_, rfl, _, rfl, _, _, rfl, rfl, cd, ?_⟩
          dsimp only
          rw [← Int.natCast_ediv]
          refine ⟨_, rfl, _, rfl, _, rfl, ((m / c : Nat) : Int), (c : Int), rfl, ?_⟩
          rw [Int.gcd_natCast_natCast]
          exact ⟨D, us.map (· / c), Nat.gcd (m / c) c, rfl, e, D, _, rfl, s2', e⟩
    · rw [decide_eq_false (show ¬ (c : Int) > 1 by omega)]
      refine iteF ?_
      have c1 : c = 1 := by omega
      refine ⟨_, rfl, _, rfl, by show 2 ≤ sizeLine; decide, fun t' nt => ?_⟩
      have st := same_upd (o := .tup [.ref a', .int (m : Nat)]) nt
      refine q _ t' a' m us k (s1.trans st) upd_same (st _ _ ha') k0 eu eb fun e h1 h2 h3 => ?_
      have := ce e h1 h2 h3
      rw [c1] at this
      exact Nat.dvd_one.mp this
end

end Fb

namespace Fb
open PySem PySem.Spec PyProof.Rows L2
section
variable {P : Program} {w : World} {K : PySem.W.Frag} {mg : Str → Option Value} {base : Heap}
/-! ### shares of levels -/
theorem flds_eq (q : Rat) : flds q = [(("top" : Str), V.int q.num), (("bottom" : Str), V.int (q.den : Int))] := by
  unfold flds
  simp only [putF]
  rw [if_neg tb]
theorem putF_t {x y z : V} : putF "top" x [(("top" : Str), y), (("bottom" : Str), z)] = [(("top" : Str), x), (("bottom" : Str), z)] := by
  unfold putF
  exact if_pos rfl
theorem putF_b {x y z : V} : putF "bottom" x [(("top" : Str), y), (("bottom" : Str), z)] = [(("top" : Str), y), (("bottom" : Str), x)] := by
  unfold putF
  rw [if_neg tb]
  unfold putF
  rw [if_pos rfl]
theorem mk_shareN {C : Addr} {H : Hp} {t b : Int} {Q : Addr → Hp → Prop} {E : XK} (hb : b ≠ 0) (hl : b.natAbs.log2 < 9000) (q : ∀ H' r dx, H r = none → Same H H' → H' r = some (.ins C dx (flds (Rat.divInt t b))) → Q r H') :
    ∀ x dx, H x = none → H dx = none → dx ≠ x → spShare C (.ref x :: ([.int t, .int b] ++ [])) (upd (upd H dx (.own x)) x (.ins C dx [])) (fun v H2 => v = .non ∧ Q x H2) E := by
  intro x dx nx ndx ne
  refine ⟨x, dx, t, b, rfl, upd_same, hb, hl, fun H' k e => ⟨rfl, q H' x dx nx (fun a o ea => ?_) e⟩⟩
  have h1 : a ≠ x := ne_of_none ea nx
  refine k a o ?_ h1
  rw [upd_ne h1, upd_ne (ne_of_none ea ndx)]
  exact ea
def spLwSh (C : Addr) : Sp := fun vs H Q _ => ∃ (q : Rat), vs = [.int q.num, .int (q.den : Nat)] ∧ ∀ H' r, Same H H' → IsShare C H' r q → Q r H'
theorem ok_p_lowest_share (T : Txt K mg) : FnOk P w K mg base CX0 4 T.f_p_lowest_share T.d_p_lowest_share ["top", "bottom"] (spLwSh T.c_Share) := by
  obtain ⟨ds, hds, bds⟩ := T.e_m_Share_init
  refine T.F_p_lowest_share.ok sc_p_lowest_share (fun vs H Q E h => ?_) (fun cdv A outer s H vs Q E hr h => ?_)
  · obtain ⟨q, rfl, _⟩ := h
    rfl
  · obtain ⟨x, rfl, q⟩ := h
    refine ⟨_, (pss_cons (ps_set (i := 2) sc_p_lowest_share.nd rfl (.inl rfl) (pe_make T.M_Share (ok_m_Share_init T) (hr.mono (by decide)) (by rfl) T.g_Share bds hds pass0 (pa_cons pe_int pa_nil)))
 (pss_cons (ps_fld (pv 2) (pv 0) rfl)
 (pss_cons (ps_fld (pv 2) (pv 1) rfl)
 (pss_one (ps_ret (pv 2)))))), ?_⟩
    refine mk_shareN (t := 0) (b := 1) (by decide) (by decide) fun H1 r dx nr s1 e1 => ?_
    rw [flds_eq] at e1
    refine ⟨_, rfl, _, rfl, r, T.c_Share, dx, _, rfl, e1, T.cl_Share, T.n_Share_top, (by show 2 < 1000; decide), ?_⟩
    refine ⟨_, rfl, _, rfl, r, T.c_Share, dx, _, rfl, upd_same, T.cl_Share, T.n_Share_bottom, (by show 2 < 1000; decide), ?_⟩
    refine ⟨_, rfl, q _ (.ref r) (fun a o ea => ?_) ⟨r, dx, rfl, ?_⟩⟩
    · have h1 : a ≠ r := ne_of_none ea nr
      rw [upd_ne h1, upd_ne h1]
      exact s1 _ _ ea
    · rw [upd_same, putF_t, putF_b, flds_eq]
theorem cop_dvd {d g : Nat} (h : Nat.gcd d g = 1) : ∀ k, d ∣ g ^ k → d = 1
  | 0, e => Nat.dvd_one.mp e
  | k + 1, e => by
    rw [Nat.pow_succ] at e
    exact cop_dvd h k (Nat.Coprime.dvd_of_dvd_mul_right h e)
theorem low_num {t b : Nat} (h : Nat.gcd t b = 1) (b0 : 0 < b) : (Rat.divInt (t : Int) (b : Int)).num = t ∧ (Rat.divInt (t : Int) (b : Int)).den = b := by
  have hg : Int.gcd (b : Int) (t : Int) = 1 := by
    rw [Int.gcd_natCast_natCast, Nat.gcd_comm]
    exact h
  constructor
  · rw [Rat.num_divInt, hg, Int.sign_eq_one_of_pos (by omega)]
    simp
  · rw [Rat.den_divInt, if_neg (by omega), Int.gcd_comm, Int.gcd_comm, hg]
    simp
def spShBy (C : Addr) : Sp := fun vs H Q _ => ∃ (t b g k : Nat), vs = [.int t, .int b, .int g] ∧ 0 < b ∧ b < 2 ^ 8001 ∧ b ∣ g ^ k ∧ ∀ H' r, Same H H' → IsShare C H' r (Rat.divInt (t : Int) (b : Int)) → Q r H'
theorem ok_p_share_by (T : Txt K mg) : FnOk P w K mg base CX0 5 T.f_p_share_by T.d_p_share_by ["top", "bottom", "grain"] (spShBy T.c_Share) := by
  refine T.F_p_share_by.ok sc_p_share_by (fun vs H Q E h => ?_) (fun cdv A outer s H vs Q E hr h => ?_)
  · obtain ⟨t, b, g, k, rfl, _⟩ := h
    rfl
  · obtain ⟨t, b, g, k, rfl, b0, b1, hd, q⟩ := h
    refine ⟨_, (pss_cons (ps_if (pt_cmpR op_eq (pv 0) pe_int (nomark _))
  (pss_one (ps_ret (pe_call (ok_p_lowest_share T) (hr.mono (by decide)) (by rfl) T.g_p_lowest_share T.F_p_lowest_share.kp T.b_p_lowest_share .nil pass0 (pa_cons pe_int (pa_cons pe_int pa_nil)))))
  pss_nil)
 (pss_cons (ps_asg (pe_call (ok_p_lowered T) (hr.mono (by decide)) (by rfl) T.g_p_lowered T.F_p_lowered.kp T.b_p_lowered .nil pass0 (pa_cons (pe_tup (pa_cons (pe_lst (pa_cons (pv 0) pa_nil)) (pa_cons (pv 1) pa_nil))) (pa_cons (pv 2) pa_nil))) (pg_tup (by rfl) (pgs_cons (pg_name (i := 3) sc_p_share_by.nd rfl (.inl rfl)) (pgs_cons (pg_name (i := 4) sc_p_share_by.nd rfl (.inl rfl)) pgs_nil))))
 (pss_one (ps_ret (pe_call (ok_p_lowest_share T) (hr.mono (by decide)) (by rfl) T.g_p_lowest_share T.F_p_lowest_share.kp T.b_p_lowest_share .nil pass0 (pa_cons (pe_ix ix_list (pv 3) pe_int (fun _ _ => rfl)) (pa_cons (pv 4) pa_nil))))))), ?_⟩
    refine ⟨_, rfl, rfl, _, rfl, ite2 (fun e => ?_) (fun _ => ?_)⟩
    · have e0 : (t : Int) = 0 := V.int.inj (of_decide_eq_true e)
      rw [e0, Rat.zero_divInt] at q
      exact ⟨(0 : Rat), rfl, q⟩
    · refine ⟨_, rfl, by show 1 ≤ sizeLine; decide, fun l nl => ?_⟩
      have s1 := same_upd (o := .lst [.int t]) nl
      refine ⟨_, rfl, by show 2 ≤ sizeLine; decide, fun p np => ?_⟩
      have s2 := same_upd (o := .tup [.ref l, .int b]) np
      refine ⟨_, rfl, p, l, b, g, [t], rfl, upd_same, s2 _ _ upd_same, b0, b1, by show 1 ≤ 900; decide, fun H3 p3 l3 b' ts' c s3 e3 f3 c0 et eb one => ?_⟩
      obtain ⟨t', rfl⟩ : ∃ t', ts' = [t'] := by
        have := congrArg List.length et
        rw [List.length_map] at this
        match ts', this with
        | [x], _ => exact ⟨x, rfl⟩
      have et : t = c * t' := by simpa using et
      subst et
      subst eb
      have b0' : 0 < b' := Nat.pos_of_ne_zero fun z => by
        rw [z] at b0
        exact absurd b0 (by simp)
      have hone : Nat.gcd t' b' = 1 := by
        refine cop_dvd (g := g) ?_ k (Nat.dvd_trans (Nat.dvd_trans (Nat.gcd_dvd_right t' b') (Nat.dvd_mul_left b' c)) hd)
        refine one _ (fun n hn => ?_) (Nat.dvd_trans (Nat.gcd_dvd_left _ _) (Nat.gcd_dvd_right _ _)) (Nat.gcd_dvd_right _ _)
        rw [List.mem_singleton.mp hn]
        exact Nat.dvd_trans (Nat.gcd_dvd_left _ _) (Nat.gcd_dvd_left _ _)
      obtain ⟨h1, h2⟩ := low_num hone b0'
      have ev : Rat.divInt ((c * t' : Nat) : Int) ((c * b' : Nat) : Int) = Rat.divInt (t' : Int) (b' : Int) := by
        rw [Int.natCast_mul, Int.natCast_mul, Rat.divInt_mul_left (by omega)]
      rw [ev] at q
      refine ⟨p3, _, rfl, .inl (.inl e3), rfl, _, _, rfl, _, _, rfl, rfl, ?_⟩
      refine ⟨_, rfl, l3, _, _, _, rfl, rfl, SqL.of f3, atI_nat (j := 0) rfl, _, rfl, Rat.divInt (t' : Int) (b' : Int), ?_, fun H4 r s4 h4 => q _ _ (s1.trans (s2.trans (s3.trans s4))) h4⟩
      rw [h1, h2]
      rfl
def valL (ts : List Nat) (b : Nat) : List Rat := ts.map fun (n : Nat) => Rat.divInt (n : Int) (b : Int)
def spShAt (C : Addr) : Sp := fun vs H Q _ => ∃ (t a : Addr) (b g k : Nat) (ts : List Nat), vs = [.ref t, .int g] ∧ H t = some (.tup [.ref a, .int b]) ∧ H a = some (.lst (nts ts)) ∧ ts.length ≤ 900 ∧ 0 < b ∧ b < 2 ^ 8001 ∧ b ∣ g ^ k ∧
  ∀ H' p vs, Same H H' → H p = none → H' p = some (.lst vs) → AllAre (IsShare C H') vs (valL ts b) → Q (.ref p) H'
theorem ok_p_shares_at (T : Txt K mg) : FnOk P w K mg base CX0 6 T.f_p_shares_at T.d_p_shares_at ["level", "grain"] (spShAt T.c_Share) := by
  refine T.F_p_shares_at.ok sc_p_shares_at (fun vs H Q E h => ?_) (fun cdv A outer s H vs Q E hr h => ?_)
  · obtain ⟨t, a, b, g, k, ts, rfl, _⟩ := h
    rfl
  · obtain ⟨t, a, b, g, k, ts, rfl, ht, ha, l9, b0, b1, hd, q⟩ := h
    refine ⟨_, (pss_cons (ps_asg (pv 0) (pg_tup (by rfl) (pgs_cons (pg_name (i := 2) sc_p_shares_at.nd rfl (.inl rfl)) (pgs_cons (pg_name (i := 3) sc_p_shares_at.nd rfl (.inr rfl)) pgs_nil))))
 (pss_one (ps_ret (pe_lc (own := [("top", 4)]) (g := (gName 4)) (tt := tYes) (by rfl) sc_p_shares_at.nd (pi_list (pv 2)) (blkOk_by (own := [("top", 4)]) (N := ["level", "grain", "tops", "bottom", "top"]) (sc := defScope s_p_shares_at) (by decide +kernel)) (fun _ _ _ _ _ => by exact (pg_name (i := 4) sc_p_shares_at.nd rfl (.inl rfl))) (fun _ _ _ _ _ => by exact pts_nil) (fun _ _ _ _ _ => by exact (pe_call (ok_p_share_by T) (hr.mono (by decide)) (by rfl) T.g_p_share_by T.F_p_share_by.kp T.b_p_share_by .nil pass0 (pa_cons (pv 4) (pa_cons (pv 3) (pa_cons (pv 1) pa_nil))))))))), ?_⟩
    refine ⟨_, rfl, t, _, rfl, .inl (.inl ht), rfl, _, _, rfl, _, _, rfl, rfl, ?_⟩
    refine ⟨_, rfl, a, rfl, ⟨_, SqL.of ha⟩, fun D nD => lc_allW (walk_list (K := K) (a := a) (xs := nts ts)) (fun i y G => ∃ n, ts[i]? = some n ∧ IsShare T.c_Share G y (Rat.divInt (n : Int) (b : Int))) (fun _ _ _ _ s h => h.elim fun n f => ⟨n, f.1, f.2.mono s⟩) nD (fun H' s => SqL.of (s _ _ ha)) (by rw [nts_len]; omega) (fun i v H2 H3 kk hi s2 eD y hk => ?_) (fun H2 ys s2 e l r => ?_)⟩
    · obtain ⟨rfl, hv⟩ := y
      obtain ⟨n, hn, rfl⟩ := nts_at hv
      refine ⟨rfl, _, rfl, _, rfl, _, rfl, n, b, g, k, rfl, b0, b1, hd, fun H4 r4 s4 h4 => ?_⟩
      have eD4 : ∃ ys, H4 D = some (.lst ys) := by
        obtain ⟨ys', e'⟩ := eD
        exact ⟨ys', s4 _ _ e'⟩
      exact hk _ _ s4 ⟨n, hn, h4.hidL eD4⟩
    · refine q H2 D ys (s2.trans hid_same) nD e (.of_ix (by rw [l, nts_len]; unfold valL; rw [List.length_map]) fun i y hy => ?_)
      obtain ⟨n, hn, f⟩ := r i y hy
      exact ⟨_, by unfold valL; rw [List.getElem?_map, hn]; rfl, f.mono hid_same⟩
/-! ### what is to be awaited behind a step -/
def wdotN (ws ts : List Nat) : Nat := (List.zipWith (· * ·) ws ts).sum
theorem wdot_le {b : Nat} : ∀ {ws ts : List Nat}, (∀ n ∈ ts, n ≤ b) → wdotN ws ts ≤ ws.sum * b
  | [], _, _ => Nat.zero_le _
  | _ :: _, [], _ => Nat.zero_le _
  | n :: ws, t :: ts, h => by
    show n * t + wdotN ws ts ≤ (n + ws.sum) * b
    have h1 := wdot_le (ws := ws) (ts := ts) fun x hx => h x (List.mem_cons_of_mem _ hx)
    have h2 := Nat.mul_le_mul_left n (h t List.mem_cons_self)
    rw [Nat.add_mul]
    omega
def spAwait : Sp := fun vs H Q _ => ∃ (wa a : Addr) (ws ts : List Nat) (W b : Nat), vs = [.ref wa, .ref a, .int W] ∧ H wa = some (.tup (nts ws)) ∧ H a = some (.lst (nts ts)) ∧ ws.length = ts.length ∧ ts.length ≤ 900 ∧ 0 < ws.sum ∧ ws.sum < 2 ^ 8001 ∧ W < 2 ^ 8001 ∧ (∀ n ∈ ts, n ≤ b) ∧ b < 2 ^ 8001 ∧
  ∀ H', Same H H' → Q (.int (wdotN ws ts * (W / ws.sum) : Nat)) H'
theorem ok_p_awaited (T : Txt K mg) : FnOk P w K mg base CX0 1 T.f_p_awaited T.d_p_awaited ["weights", "tops", "whole"] spAwait := by
  refine T.F_p_awaited.ok sc_p_awaited (fun vs H Q E h => ?_) (fun cdv A outer s H vs Q E hr h => ?_)
  · obtain ⟨wa, a, ws, ts, W, b, rfl, _⟩ := h
    rfl
  · obtain ⟨wa, a, ws, ts, W, b, rfl, hw, ha, ll, l9, s0, s1, hW, tb', hb, q⟩ := h
    refine ⟨_, (pss_one (ps_ret (pe_op op_mulW (pe_callB (cr_sumK (K := K) rfl rfl) (by rfl) T.z_sum (by decide +kernel) (pa_cons (pe_lc (own := [("weight", 3), ("top", 4)]) (g := (gTup K 2 (gCons (gName 3) (gCons (gName 4) gNil)))) (tt := tYes) (by rfl) sc_p_awaited.nd (pi_zipS .t .l (K := K) rfl (by rfl) T.z_zip (pa_cons (pv 0) (pa_cons (pv 1) pa_nil))) (blkOk_by (own := [("weight", 3), ("top", 4)]) (N := ["weights", "tops", "whole", "weight", "top"]) (sc := defScope s_p_awaited) (by decide +kernel)) (fun _ _ _ _ _ => by exact (pg_tup (by rfl) (pgs_cons (pg_name (i := 3) sc_p_awaited.nd rfl (.inl rfl)) (pgs_cons (pg_name (i := 4) sc_p_awaited.nd rfl (.inl rfl)) pgs_nil)))) (fun _ _ _ _ _ => by exact pts_nil) (fun _ _ _ _ _ => by exact (pe_op op_mulW (pv 3) (pv 4)))) pa_nil)) (pe_op op_fdivW (pv 2) (pe_callB (cr_sumTK (K := K) rfl rfl) (by rfl) T.z_sum (by decide +kernel) (pa_cons (pv 0) pa_nil)))))), ?_⟩
    have q1 : SqT K H wa (nts ws) := .inl (.inl hw)
    refine ⟨_, rfl, _, rfl, wa, a, nts ws, nts ts, rfl, ⟨q1, SqL.of ha⟩, fun D nD => lc_allW (walk_zipS (k1 := .t) (k2 := .l) (K := K) (a := wa) (b := a) (xs := nts ws) (ys := nts ts) (n := ts.length) (by rw [nts_len, nts_len]; omega)) (fun i y _ => ∃ n t : Nat, ws[i]? = some n ∧ ts[i]? = some t ∧ y = .int ((n * t : Nat) : Int)) (fun _ _ _ _ _ h => h) nD (fun H' s => ⟨(.inl (.inl (s _ _ hw)) : SqT K H' wa (nts ws)), SqL.of (s _ _ ha)⟩) (by omega) (fun i v H2 H3 kk hi s2 eD y hk => ?_) (fun H2 ys s2 e l r => ?_)⟩
    · obtain ⟨t2, x, y, rfl, nt, rfl, ex, ey⟩ := y
      obtain ⟨n, hn, rfl⟩ := nts_at ex
      obtain ⟨t, ht, rfl⟩ := nts_at ey
      have n1 : n < 2 ^ 8001 := Nat.lt_of_le_of_lt (le_sum' (List.mem_of_getElem? hn)) s1
      have t1 : t < 2 ^ 8001 := Nat.lt_of_le_of_lt (tb' t (List.mem_of_getElem? ht)) hb
      refine ⟨t2, _, rfl, .inl (.inl upd_same), rfl, _, _, rfl, _, _, rfl, rfl, rfl, ?_⟩
      refine ⟨_, rfl, _, rfl, _, _, rfl, rfl, wide_mul (nat_abs n1) (nat_abs t1) (by decide) (by decide) (by decide), hk _ _ (same_upd nt) ⟨n, t, hn, ht, ?_⟩⟩
      dsimp only
      rw [Int.natCast_mul]
    · have ey : ys = (((List.zipWith (· * ·) ws ts).map fun (n : Nat) => (n : Int))).map V.int := by
        refine List.ext_getElem? fun i => ?_
        by_cases hi : i < ys.length
        · obtain ⟨n, t, hn, ht, hy⟩ := r i _ (List.getElem?_eq_getElem hi)
          rw [List.getElem?_eq_getElem hi, hy, List.map_map, List.getElem?_map, List.getElem?_zipWith, hn, ht]
          rfl
        · rw [List.getElem?_eq_none (by omega), List.getElem?_eq_none (by rw [List.length_map, List.length_map, List.length_zipWith]; omega)]
      rw [ey] at e
      have s2' : Same H H2 := s2.trans hid_same
      have hw2 := s2' _ _ hw
      rw [nts_i] at hw2
      have S0 : (0 : Int) < (ws.sum : Nat) := by omega
      have w1 : wdotN ws ts < 2 ^ 16002 := by
        refine Nat.lt_of_le_of_lt (wdot_le tb') ?_
        rw [show 16002 = 8001 + 8001 from rfl, Nat.pow_add]
        exact Nat.mul_lt_mul'' s1 hb
      refine ⟨D, _, rfl, SqL.of e, _, rfl, _, rfl, wa, _, rfl, .inl (.inl hw2), ?_⟩
      rw [sum_ints, sum_ints]
      refine ⟨_, _, rfl, rfl, wide_div S0 (nat_abs s1) (by decide) (by decide), _, _, rfl, rfl, wide_mul (a := 16002) (b := 8001) (nat_abs w1) ?_ (by decide) (by decide) (by decide), ?_⟩
      · show ((W : Int) / ((ws.sum : Nat) : Int)).natAbs < _
        rw [← Int.natCast_ediv]
        exact nat_abs (Nat.lt_of_le_of_lt (Nat.div_le_self _ _) hW)
      · have ev : ((wdotN ws ts : Nat) : Int) * ((W : Int) / ((ws.sum : Nat) : Int)) = ((wdotN ws ts * (W / ws.sum) : Nat) : Int) := by
          rw [Int.natCast_mul, Int.natCast_ediv]
        have fin := q H2 s2'
        rw [← ev] at fin
        exact fin
end

end Fb

namespace Fb
open PySem PySem.Spec PyProof.Rows L2
section
variable {P : Program} {w : World} {K : PySem.W.Frag} {mg : Str → Option Value} {base : Heap}
/-! ### one sign ahead -/
def hpW (ws : List Nat) : List Rat := ws.map fun (n : Nat) => Rat.divInt (n : Int) ((ws.sum : Nat) : Int)
def selD (z : Str) (d : List Stp) : Option Stp := d.find? fun s => decide (s.sign = z)
def stepV (z : Str) (d : List Stp) (qs : List Rat) : Rat := match selD z d with
  | none => 0
  | some s => dot (hpW s.ws) qs
theorem rsum_divN (c : Nat) (l : List Nat) : rsum (l.map fun (n : Nat) => Rat.divInt (n : Int) (c : Int)) = Rat.divInt ((l.sum : Nat) : Int) (c : Int) := by
  have h := rsum_div (c : Int) (l.map fun (n : Nat) => (n : Int))
  rw [List.map_map, sum_ints] at h
  exact h
theorem dot_val {ws ts : List Nat} {b W : Nat} (s0 : 0 < ws.sum) (hd : ws.sum ∣ W) (W0 : 0 < W) : dot (hpW ws) (valL ts b) = Rat.divInt ((wdotN ws ts * (W / ws.sum) : Nat) : Int) ((b * W : Nat) : Int) := by
  have e1 : List.zipWith (· * ·) (hpW ws) (valL ts b) = (List.zipWith (· * ·) ws ts).map fun (n : Nat) => Rat.divInt (n : Int) ((ws.sum * b : Nat) : Int) := by
    unfold hpW valL
    rw [List.zipWith_map, List.map_zipWith]
    congr 1
    funext n t
    rw [Rat.divInt_mul_divInt, Int.natCast_mul, Int.natCast_mul]
  unfold dot
  rw [e1, rsum_divN]
  obtain ⟨k, rfl⟩ := hd
  have k0 : k ≠ 0 := fun z => by
    rw [z] at W0
    simp at W0
  rw [Nat.mul_div_cancel_left _ s0]
  have e2 : b * (ws.sum * k) = (ws.sum * b) * k := by rw [← Nat.mul_assoc, Nat.mul_comm b]
  rw [e2, Int.natCast_mul (wdotN ws ts), Int.natCast_mul (ws.sum * b), Rat.divInt_mul_right (by omega)]
  rfl
structure DsOk (m : Nat) (ds : List (List Stp)) : Prop where
  m12 : m ≤ 12
  len : ds.length = m
  wl : ∀ d ∈ ds, ∀ s ∈ d, s.ws.length = m
  pos : ∀ d ∈ ds, ∀ s ∈ d, 0 < s.ws.sum
theorem AreKw.tail {H : Hp} {kv : Key × V} {kvs : List (Key × V)} {s : Stp} {d : List Stp} (h : AreKw H (kv :: kvs) (s :: d)) : IsKw H kv s ∧ AreKw H kvs d :=
  ⟨h.2 0 kv s rfl rfl, by simpa using h.1, fun i a b h1 h2 => h.2 (i + 1) a b (by simpa using h1) (by simpa using h2)⟩
theorem kw_val {H : Hp} (z : Str) : ∀ {kvs : List (Key × V)} {d : List Stp}, AreKw H kvs d → (selD z d = none ∧ valV kvs (.inr z) = none) ∨ ∃ s wa, selD z d = some s ∧ s.sign = z ∧ s ∈ d ∧ valV kvs (.inr z) = some (.ref wa) ∧ H wa = some (.tup (nts s.ws))
  | [], [], _ => .inl ⟨rfl, rfl⟩
  | kv :: kvs, s :: d, h => by
    obtain ⟨⟨wa, rfl, hw⟩, ht⟩ := h.tail
    by_cases e : s.sign = z
    · exact .inr ⟨s, wa, by unfold selD; rw [List.find?_cons_of_pos (by simpa using e)], e, List.mem_cons_self, valV_pos (by show Sum.inr s.sign = Sum.inr z; rw [e]), hw⟩
    · have e1 : selD z (s :: d) = selD z d := by unfold selD; rw [List.find?_cons_of_neg (by simpa using e)]
      have e2 : valV ((Sum.inr s.sign, V.ref wa) :: kvs) (.inr z) = valV kvs (.inr z) := valV_neg fun c => e (Sum.inr.inj c)
      rw [e1, e2]
      exact (kw_val z ht).imp id fun ⟨s, wa, a, b, c, f⟩ => ⟨s, wa, a, b, List.mem_cons_of_mem _ c, f⟩
  | [], _ :: _, h => by simp [AreKw] at h
  | _ :: _, [], h => by simp [AreKw] at h
def spStepd : Sp := fun vs H Q _ => ∃ (p t a : Addr) (z : Str) (xs : List V) (ds : List (List Stp)) (ts : List Nat) (b : Nat), vs = [.ref p, .str z, .ref t] ∧ H p = some (.lst xs) ∧ AllAre (IsDoor H) xs ds ∧ H t = some (.tup [.ref a, .int b]) ∧ H a = some (.lst (nts ts)) ∧ DsOk ts.length ds ∧
  0 < b ∧ b < 2 ^ 8001 ∧ (∀ n ∈ ts, n ≤ b) ∧ grainF 1 ds.flatten < 2 ^ 8001 ∧
  ∀ H' t' a' W us, Same H H' → H' t' = some (.tup [.ref a', .int ((b * W : Nat) : Int)]) → H' a' = some (.lst (nts us)) → 0 < W → W ∣ grainF 1 ds.flatten → us.length = ts.length → (∀ n ∈ us, n ≤ b * W) → valL us (b * W) = ds.map (fun d => stepV z d (valL ts b)) → Q (.ref t') H'
def topD (z : Str) (W : Nat) (ts : List Nat) (d : List Stp) : Nat := match selD z d with
  | none => 0
  | some s => wdotN s.ws ts * (W / s.ws.sum)
theorem top_val {z : Str} {W b : Nat} {ts : List Nat} {d : List Stp} (h : ∀ s ∈ d, selD z d = some s → 0 < s.ws.sum ∧ s.ws.sum ∣ W) (W0 : 0 < W) (tb' : ∀ n ∈ ts, n ≤ b) : topD z W ts d ≤ b * W ∧ Rat.divInt (topD z W ts d : Nat) ((b * W : Nat) : Int) = stepV z d (valL ts b) := by
  unfold topD stepV
  cases e : selD z d with
  | none => exact ⟨Nat.zero_le _, Rat.zero_divInt _⟩
  | some s =>
    obtain ⟨s0, sd⟩ := h s (List.mem_of_find?_eq_some e) e
    refine ⟨?_, (dot_val s0 sd W0).symm⟩
    obtain ⟨k, rfl⟩ := sd
    show wdotN s.ws ts * (s.ws.sum * k / s.ws.sum) ≤ b * (s.ws.sum * k)
    rw [Nat.mul_div_cancel_left _ s0]
    have := Nat.mul_le_mul_right k (wdot_le (ws := s.ws) tb')
    rw [← Nat.mul_assoc, Nat.mul_comm b]
    exact this
set_option maxHeartbeats 800000 in
theorem ok_p_stepped (T : Txt K mg) : FnOk P w K mg base CX0 4 T.f_p_stepped T.d_p_stepped ["doors", "sign", "level"] spStepd := by
  refine T.F_p_stepped.ok sc_p_stepped (fun vs H Q E h => ?_) (fun cdv A outer s H vs Q E hr h => ?_)
  · obtain ⟨p, t, a, z, xs, ds, ts, b, rfl, _⟩ := h
    rfl
  · obtain ⟨p, t, a, z, xs, ds, ts, b, rfl, hp, aa, ht, ha, ok, b0, b1, tb', gl, q⟩ := h
    refine ⟨_, (pss_cons (ps_asg (pv 2) (pg_tup (by rfl) (pgs_cons (pg_name (i := 3) sc_p_stepped.nd rfl (.inr rfl)) (pgs_cons (pg_name (i := 4) sc_p_stepped.nd rfl (.inl rfl)) pgs_nil))))
 (pss_cons (ps_set (i := 5) sc_p_stepped.nd rfl (.inr rfl) (pe_call (ok_p_grain_of T) (hr.mono (by decide)) (by rfl) T.g_p_grain_of T.F_p_grain_of.kp T.b_p_grain_of .nil pass0 (pa_cons (pe_lc (own := [("door", 6)]) (g := (gName 6)) (tt := _) (by rfl) sc_p_stepped.nd (pi_list (pv 0)) (blkOk_by (own := [("door", 6)]) (N := ["doors", "sign", "level", "tops", "bottom", "whole", "door"]) (sc := defScope s_p_stepped) (by decide +kernel)) (fun _ _ _ _ _ => by exact (pg_name (i := 6) sc_p_stepped.nd rfl (.inl rfl))) (fun _ _ _ _ _ => by exact (pts_one (pt_cmp (pc_din (units1 hr.units) (pv 1) (pv 6)) (by with_unfolding_all rfl)))) (fun _ _ _ _ _ => by exact (pe_disp (pps_cons (pv 1) (pe_dget (units1 hr.units) (pv 6) (pv 1) (fun _ _ => rfl)) pps_nil) (by rfl) (by rfl) (fun z => by cases z) (by decide)))) pa_nil)))
 (pss_one (ps_ret (pe_tup (pa_cons (pe_lc (own := [("door", 6)]) (g := (gName 6)) (tt := tYes) (by rfl) sc_p_stepped.nd (pi_list (pv 0)) (blkOk_by (own := [("door", 6)]) (N := ["doors", "sign", "level", "tops", "bottom", "whole", "door"]) (sc := defScope s_p_stepped) (by decide +kernel)) (fun _ _ _ _ _ => by exact (pg_name (i := 6) sc_p_stepped.nd rfl (.inl rfl))) (fun _ _ _ _ _ => by exact pts_nil) (fun _ _ _ _ _ => by exact (pe_ifExp (pt_cmp (pc_din (units1 hr.units) (pv 1) (pv 6)) (by with_unfolding_all rfl)) (pe_call (ok_p_awaited T) (hr.mono (by decide)) (by rfl) T.g_p_awaited T.F_p_awaited.kp T.b_p_awaited .nil pass0 (pa_cons (pe_dget (units1 hr.units) (pv 6) (pv 1) (fun _ _ => rfl)) (pa_cons (pv 3) (pa_cons (pv 5) pa_nil)))) pe_int))) (pa_cons (pe_op op_mulW (pv 4) (pv 5)) pa_nil))))))), ?_⟩
    have m12 := ok.m12
    have ld := ok.len
    have lx : xs.length = ts.length := by rw [aa.1, ld]
    refine ⟨_, rfl, t, _, rfl, .inl (.inl ht), rfl, _, _, rfl, _, _, rfl, rfl, ?_⟩
    refine ⟨_, rfl, p, rfl, ⟨_, SqL.of hp⟩, fun D nD => lc_filtW (walk_list (K := K) (a := p) (xs := xs)) (fun i => (ds[i]?).any fun d => (selD z d).isSome) (fun i y G => ∃ d, ds[i]? = some d ∧ IsDoor G y (selD z d).toList) (fun _ _ _ _ s h => h.elim fun d f => ⟨d, f.1, f.2.mono s⟩) nD (fun H' s => SqL.of (s _ _ hp)) (by omega) (fun i x H3 H4 kt kf hi s3 eD3 y hkt hkf => ?_) (fun H3 ys s3 e3 a3 => ?_)⟩
    · obtain ⟨rfl, hv⟩ := y
      obtain ⟨d, hd, pd, kvs, rfl, hpd, ak⟩ := aa.at hv
      simp only [hd, Option.any_some] at hkt hkf
      have hpd3 := hid_same _ _ (s3 _ _ hpd)
      have ak3 : AreKw H4 kvs d := ak.imp fun _ _ e => hid_same _ _ (s3 _ _ e)
      refine ⟨rfl, _, rfl, _, rfl, pd, _, rfl, DGet.k (k := .inr z) hpd3, _, rfl, ?_⟩
      rcases kw_val z ak3 with ⟨e1, e2⟩ | ⟨st, wa, e1, ez, _, e2, hw⟩
      · rw [e2]
        exact iteF (hkf (by rw [e1]; rfl) _ (Same.refl _))
      · rw [e2]
        refine iteT fun o no => ?_
        have so := same_upd (o := .dK []) no
        have dg : DGet (upd H4 o (.dK [])) pd (.str z) (some (.ref wa)) := by
          rw [← e2]
          exact DGet.k (k := .inr z) (so _ _ hpd3)
        refine ⟨_, rfl, _, rfl, _, rfl, pd, _, rfl, dg, upd_same, [(.inr z, .ref wa)], rfl, (by show 1 ≤ 15; decide), ?_⟩
        have s2 : Same H4 (upd (upd H4 o (.dK [])) o (.dK (mergeK [] [(.inr z, .ref wa)]))) := same_over so no
        have eD5 : ∃ ys, (upd (upd H4 o (.dK [])) o (.dK (mergeK [] [(.inr z, .ref wa)]))) D = some (.lst ys) := by
          obtain ⟨ys', e'⟩ := eD3
          exact ⟨ys', s2 _ _ e'⟩
        refine hkt (by rw [e1]; rfl) _ _ s2 ⟨d, rfl, o, _, rfl, hid_no eD5 upd_same (fun _ => nofun), ?_⟩
        rw [e1]
        refine ⟨rfl, fun j kv u h1 h2 => ?_⟩
        cases j with
        | zero =>
          cases h1
          cases h2
          exact ⟨wa, by rw [ez], hid_no eD5 (s2 _ _ hw) (fun _ => nofun)⟩
        | succ j => cases h2
    · rw [aa.1] at a3
      have h1 := filt_are (R := fun y d => IsDoor (hid D H3) y (selD z d).toList) (p := fun d => (selD z d).isSome) ds.length ys (Nat.le_refl _) a3
      rw [List.take_length] at h1
      have s3' : Same H H3 := s3.trans hid_same
      have h2 : AllAre (IsDoor H3) ys ((ds.filter fun d => (selD z d).isSome).map fun d => (selD z d).toList) := .of_ix (by rw [List.length_map]; exact h1.1) fun i y hy => by
        obtain ⟨d, hd, f⟩ := h1.at hy
        exact ⟨_, by rw [List.getElem?_map, hd]; rfl, f.mono hid_same⟩
      obtain ⟨fl, efl⟩ : ∃ fl, fl = ((ds.filter fun d => (selD z d).isSome).map fun d => (selD z d).toList) := ⟨_, rfl⟩
      rw [← efl] at h2
      have sub : ∀ s ∈ fl.flatten, ∃ d ∈ ds, selD z d = some s := fun s hs => by
        rw [efl] at hs
        obtain ⟨l, hl, hsl⟩ := List.mem_flatten.mp hs
        obtain ⟨d, hd, rfl⟩ := List.mem_map.mp hl
        exact ⟨d, (List.mem_filter.mp hd).1, by simpa using hsl⟩
      have sub2 : ∀ s ∈ fl.flatten, s ∈ ds.flatten ∧ 0 < s.ws.sum := fun s hs => by
        obtain ⟨d, hd, e⟩ := sub s hs
        have hm := List.mem_of_find?_eq_some e
        exact ⟨mem_flat hd hm, ok.pos d hd s hm⟩
      have sup : ∀ d ∈ ds, ∀ s, selD z d = some s → s ∈ fl.flatten := fun d hd s e => by
        rw [efl]
        exact mem_flat (List.mem_map.mpr ⟨d, List.mem_filter.mpr ⟨hd, by rw [e]; rfl⟩, rfl⟩) (by rw [e]; simp)
      have gd : grainF 1 fl.flatten ∣ grainF 1 ds.flatten := grainF_of (Nat.one_dvd _) fun s hs => (grainF_dvd ds.flatten 1).2 s (sub2 s hs).1
      have dpos : ∀ s ∈ ds.flatten, 0 < s.ws.sum := fun s hs => by
        obtain ⟨d, hd, h⟩ := List.mem_flatten.mp hs
        exact ok.pos d hd s h
      have W0 : 0 < grainF 1 fl.flatten := grainF_pos Nat.one_pos fun s hs => (sub2 s hs).2
      have W1 : grainF 1 fl.flatten < 2 ^ 8001 := Nat.lt_of_le_of_lt (Nat.le_of_dvd (grainF_pos Nat.one_pos dpos) gd) gl
      have Wd : ∀ d ∈ ds, ∀ s ∈ d, selD z d = some s → 0 < s.ws.sum ∧ s.ws.sum ∣ grainF 1 fl.flatten := fun d hd s hs e => ⟨ok.pos d hd s hs, (grainF_dvd fl.flatten 1).2 s (sup d hd s e)⟩
      refine ⟨D, ys, fl, rfl, e3, h2, fun s hs => (sub2 s hs).2, W1, ?_⟩
      generalize grainF 1 fl.flatten = W at *
      clear sub sub2 sup h2 h1 efl
      have hp3 := s3' _ _ hp
      have ha3 := s3' _ _ ha
      have aa3 := aa.imp fun _ _ h => h.mono s3'
      refine ⟨_, rfl, p, rfl, ⟨_, SqL.of hp3⟩, fun D2 nD2 => lc_allW (walk_list (K := K) (a := p) (xs := xs)) (fun i y _ => ∃ d, ds[i]? = some d ∧ y = .int (topD z W ts d : Nat)) (fun _ _ _ _ _ h => h) nD2 (fun H' s => SqL.of (s _ _ hp3)) (by omega) (fun i x H5 H6 kk hi s5 eD5 y hk => ?_) (fun H5 ys5 s5 e5 l5 r5 => ?_)⟩
      · obtain ⟨rfl, hv⟩ := y
        obtain ⟨d, hd, pd, kvs, rfl, hpd, ak⟩ := aa3.at hv
        have hm := List.mem_of_getElem? hd
        have hpd5 := hid_same _ _ (s5 _ _ hpd)
        have ak5 : AreKw H6 kvs d := ak.imp fun _ _ e => hid_same _ _ (s5 _ _ e)
        refine ⟨rfl, _, rfl, _, rfl, pd, _, rfl, DGet.k (k := .inr z) hpd5, _, rfl, ?_⟩
        rcases kw_val z ak5 with ⟨e1, e2⟩ | ⟨st, wa, e1, ez, hs, e2, hw⟩
        · rw [e2]
          refine iteF (hk _ _ (Same.refl _) ⟨d, hd, ?_⟩)
          unfold topD
          rw [e1]
          rfl
        · rw [e2]
          have dg : DGet H6 pd (.str z) (some (.ref wa)) := by
            rw [← e2]
            exact DGet.k (k := .inr z) hpd5
          have sd := Wd d hm st hs e1
          refine iteT ⟨_, rfl, _, rfl, pd, _, rfl, dg, _, rfl, _, rfl, wa, a, st.ws, ts, W, b, rfl, hw, hid_same _ _ (s5 _ _ ha3), ok.wl d hm st hs, by omega, sd.1, Nat.lt_of_le_of_lt (Nat.le_of_dvd W0 sd.2) W1, W1, tb', b1, fun H7 s7 => hk _ _ s7 ⟨d, hd, ?_⟩⟩
          unfold topD
          rw [e1]
      · have ey : ys5 = nts (ds.map (topD z W ts)) := by
          refine List.ext_getElem? fun i => ?_
          by_cases hi : i < ys5.length
          · obtain ⟨d, hd, hy⟩ := r5 i _ (List.getElem?_eq_getElem hi)
            rw [List.getElem?_eq_getElem hi, hy]
            unfold nts
            rw [List.map_map, List.getElem?_map, hd]
            rfl
          · rw [List.getElem?_eq_none (by omega), List.getElem?_eq_none (by rw [nts_len, List.length_map]; omega)]
        rw [ey] at e5
        refine ⟨_, rfl, _, rfl, _, _, rfl, rfl, wide_mul (nat_abs b1) (nat_abs W1) (by decide) (by decide) (by decide), by show 2 ≤ sizeLine; decide, fun t' nt => ?_⟩
        have st := same_upd (o := .tup [.ref D2, .int ((b : Int) * (W : Int))]) nt
        refine q _ t' D2 W (ds.map (topD z W ts)) ((s3'.trans (s5.trans hid_same)).trans st) (by rw [upd_same, Int.natCast_mul]) (st _ _ e5) W0 gd (by rw [List.length_map, ld]) (fun n hn => ?_) ?_
        · obtain ⟨d, hd, rfl⟩ := List.mem_map.mp hn
          exact (top_val (Wd d hd) W0 tb').1
        · unfold valL
          rw [List.map_map]
          exact List.map_congr_left fun d hd => (top_val (Wd d hd) W0 tb').2
end

end Fb

namespace Fb
open PySem PySem.Spec PyProof.Rows L2
section
variable {P : Program} {w : World} {K : PySem.W.Frag} {mg : Str → Option Value} {base : Heap}
/-! ### the doors of a machine -/
def doorOf (out : List Stp) (r : Nat) : List Stp := out.filter fun s => decide (s.room = r)
def doorsL (m : Nat) (out : List Stp) : List (List Stp) := (List.range m).map (doorOf out)
/-- the dicts of the rooms, after some steps -/
structure DrAt (H H' : Hp) (m : Nat) (as : List Addr) (l : List Stp) : Prop where
  nd : as.Nodup
  len : as.length = m
  new : ∀ q ∈ as, H q = none
  all : ∀ (i : Nat) q, as[i]? = some q → ∃ kvs, H' q = some (.dK kvs) ∧ AreKw H' kvs (doorOf l i)
theorem DrAt.same {H H' H'' : Hp} {m : Nat} {as : List Addr} {l : List Stp} (h : DrAt H H' m as l) (s : Same H' H'') : DrAt H H'' m as l :=
  ⟨h.nd, h.len, h.new, fun i q e => (h.all i q e).imp fun _ f => ⟨s _ _ f.1, f.2.imp fun _ _ e => s _ _ e⟩⟩
theorem door_snoc (l : List Stp) (s : Stp) (i : Nat) : doorOf (l ++ [s]) i = if s.room = i then doorOf l i ++ [s] else doorOf l i := by
  unfold doorOf
  rw [List.filter_append]
  by_cases h : s.room = i
  · rw [if_pos h, List.filter_cons_of_pos (by simpa using h), List.filter_nil]
  · rw [if_neg h, List.filter_cons_of_neg (by simpa using h), List.filter_nil, List.append_nil]
theorem DrAt.put {H H' : Hp} {m : Nat} {as : List Addr} {l : List Stp} {s : Stp} {wa q : Addr} {kvs : List (Key × V)} (h : DrAt H H' m as l) (hq : as[s.room]? = some q) (e : H' q = some (.dK kvs)) (ak : AreKw H' kvs (doorOf l s.room)) (hw : H' wa = some (.tup (nts s.ws))) (no : selD s.sign (doorOf l s.room) = none) :
    DrAt H (upd H' q (.dK (putK kvs (.inr s.sign) (.ref wa)))) m as (l ++ [s]) := by
  have keep : ∀ (c : Addr) (xs : List V), H' c = some (.tup xs) → (upd H' q (.dK (putK kvs (.inr s.sign) (.ref wa)))) c = some (.tup xs) := fun c xs f => frz_ne e f (fun z => by cases z)
  have vn : valV kvs (.inr s.sign) = none := by
    rcases kw_val s.sign ak with ⟨_, f⟩ | ⟨_, _, f, _⟩
    · exact f
    · rw [no] at f
      cases f
  refine ⟨h.nd, h.len, h.new, fun i c hc => ?_⟩
  rw [door_snoc]
  by_cases hi : s.room = i
  · subst hi
    rw [hq] at hc
    cases hc
    rw [if_pos rfl]
    refine ⟨_, upd_same, ?_⟩
    rw [putK_new _ vn]
    refine ⟨by rw [List.length_append, List.length_append, ak.1]; rfl, fun j kv u h1 h2 => ?_⟩
    by_cases hj : j < kvs.length
    · rw [List.getElem?_append_left hj] at h1
      rw [List.getElem?_append_left (by rw [← ak.1]; exact hj)] at h2
      exact (ak.2 j kv u h1 h2).imp fun _ g => ⟨g.1, by have := keep _ _ g.2; rw [putK_new _ vn] at this; exact this⟩
    · rw [List.getElem?_append_right (by omega)] at h1
      rw [List.getElem?_append_right (by rw [← ak.1]; omega), ← ak.1] at h2
      generalize j - kvs.length = j' at *
      cases j' with
      | zero =>
        cases h1
        cases h2
        exact ⟨wa, rfl, by have := keep _ _ hw; rw [putK_new _ vn] at this; exact this⟩
      | succ j' => cases h1
  · rw [if_neg hi]
    obtain ⟨kvs', e', ak'⟩ := h.all i c hc
    have ne : c ≠ q := fun z => by
      subst z
      exact hi ((List.getElem?_inj (List.getElem?_eq_some_iff.mp hq).1 h.nd).mp (hq.trans hc.symm))
    exact ⟨kvs', by rw [upd_ne ne]; exact e', ak'.imp keep⟩
def spDoors (C : Addr) : Sp := fun vs H Q _ => ∃ (v : V) (m : Nat) (out : List Stp), vs = [v] ∧ IsMach C H v m out ∧ MOk m out ∧
  ∀ H' p xs, Same H H' → H' p = some (.lst xs) → AllAre (IsDoor H') xs (doorsL m out) → Q (.ref p) H'
theorem sel_new {out : List Stp} {j : Nat} {s : Stp} (once : (out.map Stp.key).Nodup) (hs : out[j]? = some s) : selD s.sign (doorOf (out.take j) s.room) = none := by
  unfold selD doorOf
  rw [List.find?_eq_none]
  intro u hu
  have hu := List.mem_filter.mp hu
  intro c
  have c : u.sign = s.sign := of_decide_eq_true c
  have r : u.room = s.room := of_decide_eq_true hu.2
  obtain ⟨i, hi, e⟩ := List.mem_iff_getElem.mp hu.1
  rw [List.length_take] at hi
  rw [List.getElem_take] at e
  have g1 : (out.map Stp.key)[i]? = some s.key := by
    rw [List.getElem?_map, List.getElem?_eq_getElem (by omega), e]
    show some u.key = _
    exact congrArg some (Prod.ext (by show (u.room : Int) = s.room; rw [r]) c)
  have g2 : (out.map Stp.key)[j]? = some s.key := by rw [List.getElem?_map, hs]; rfl
  have := nodup_inj once g1 g2
  omega
theorem ok_p_doors_of (T : Txt K mg) : FnOk P w K mg base CX0 1 T.f_p_doors_of T.d_p_doors_of ["machine"] (spDoors T.c_Machine) := by
  refine T.F_p_doors_of.ok sc_p_doors_of (fun vs H Q E h => ?_) (fun cdv A outer s H vs Q E hr h => ?_)
  · obtain ⟨v, m, out, rfl, _⟩ := h
    rfl
  · obtain ⟨v, m, out, rfl, im, ok, q⟩ := h
    refine ⟨_, (pss_cons (ps_setLc (i := 1) (own := [("room", 2)]) (g := (gName 2)) (tt := tYes) (by rfl) sc_p_doors_of.nd rfl rfl (sw_true rfl rfl rfl (by decide +kernel)) (pi_range1 (by rfl) T.z_range (pa_cons (pe_fld (pv 0) rfl) pa_nil)) (blkOk_by (own := [("room", 2)]) (N := ["machine", "doors", "room", "sign", "weights"]) (sc := defScope s_p_doors_of) (by decide +kernel)) (fun _ _ _ _ _ => by exact (pg_name (i := 2) sc_p_doors_of.nd rfl (.inl rfl))) (fun _ _ _ _ _ => by exact pts_nil) (fun _ _ _ _ _ => by exact pe_dnewK))
 (pss_cons (ps_for PassesOwn.never rfl (pi_list (pe_fld (pv 0) rfl)) (pg_tup (by rfl) (pgs_cons (pg_name (i := 2) sc_p_doors_of.nd rfl (.inl rfl)) (pgs_cons (pg_name (i := 3) sc_p_doors_of.nd rfl (.inl rfl)) (pgs_cons (pg_name (i := 4) sc_p_doors_of.nd rfl (.inl rfl)) pgs_nil))))
  (pss_one (ps_dput (units1 hr.units) (pe_ix ix_list (pv 1) (pv 2) (fun _ _ => rfl)) (pv 3) (pv 4) rfl)))
 (pss_one (ps_ret (pv 1))))), ?_⟩
    obtain ⟨p, dx, r0, svs, rfl, hp, hr0, av⟩ := im
    have m12 := ok.ok.m12
    have few := ok.ok.few
    refine ⟨_, rfl, p, _, _, _, _, rfl, hp, T.cl_Machine, T.n_Machine_many, mflds_many m r0, m, rfl, by omega, by omega, fun D nD => ?_⟩
    refine lc_it (walk_range (lo := 0) (n := (m : Int).toNat)) (fun i G => ∃ as : List Addr, Same H G ∧ G D = some (.lst (as.map V.ref)) ∧ as.Nodup ∧ as.length = i ∧ (∀ q ∈ as, H q = none) ∧ ∀ q ∈ as, G q = some (.dK [])) ⟨[], same_upd nD, upd_same, List.nodup_nil, rfl, (fun q h => by cases h), fun q h => by cases h⟩ (fun _ _ _ _ => trivial) (fun i x G G' hi h y => ?_) (fun G h => ?_)
    · obtain ⟨as, s1, eD, nd, la, nw, al⟩ := h
      obtain ⟨rfl, rfl⟩ := y
      rw [Int.toNat_natCast] at hi
      refine ⟨rfl, ?_⟩
      dsimp only [tYes]
      rw [if_pos rfl]
      intro c nc
      have sc := same_upd (o := .dK []) nc
      have ncH : H c = none := none_of s1 nc
      have cD : c ≠ D := fun z => by
        rw [z, eD] at nc
        cases nc
      have cn : c ∉ as := fun hc => by
        rw [al c hc] at nc
        cases nc
      have qD : ∀ q ∈ as, q ≠ D := fun q hq z => by
        have := al q hq
        rw [z, eD] at this
        cases this
      refine ⟨as.map V.ref, sc _ _ eD, ?_, as ++ [c], same_over (s1.trans sc) nD, ?_, ?_, by rw [List.length_append, la]; rfl, fun q hq => ?_, fun q hq => ?_⟩
      · rw [List.length_map]
        exact small1000 (by omega)
      · rw [upd_same, List.map_append]
        rfl
      · refine List.nodup_append.mpr ⟨nd, by simp, fun a ha b hb e => cn ?_⟩
        rw [List.mem_singleton] at hb
        rw [← hb, ← e]
        exact ha
      · rcases List.mem_append.mp hq with h | h
        · exact nw q h
        · rw [List.mem_singleton.mp h]
          exact ncH
      · rcases List.mem_append.mp hq with h | h
        · rw [upd_ne (qD q h)]
          exact sc _ _ (al q h)
        · rw [List.mem_singleton.mp h, upd_ne cD]
          exact upd_same
    · obtain ⟨as, s1, eD, nd, la, nw, al⟩ := h
      rw [Int.toNat_natCast] at la
      have hp1 := s1 _ _ hp
      have hr1 := s1 _ _ hr0
      refine ⟨_, rfl, p, _, _, _, _, rfl, hp1, T.cl_Machine, T.n_Machine_steps, mflds_steps m r0, r0, rfl, ⟨_, SqL.of hr1⟩, for_list (K := K) (a := r0) (xs := svs) (fun j σ G' => ∃ z2 z3 z4, σ = [some (.ref p), some (.ref D), z2, z3, z4] ∧ Same H G' ∧ G' D = some (.lst (as.map V.ref)) ∧ DrAt H G' m as (out.take j)) ⟨_, _, _, rfl, s1, eD, nd, la, nw, fun i q hq => ⟨[], al q (List.mem_of_getElem? hq), ?_⟩⟩ (fun j σ G' _ h => ?_) (fun j x σ G' hx h => ?_) (fun σ G' h => ?_)⟩
      · rw [List.take_zero]
        exact ⟨rfl, fun i kv u h1 h2 => by cases h1⟩
      · obtain ⟨_, _, _, _, s2, _⟩ := h
        exact SqL.of (s2 _ _ hr0)
      · obtain ⟨z2, z3, z4, rfl, s2, eD2, dr⟩ := h
        obtain ⟨st, hst, t, wa, rfl, ht, hw⟩ := av.at hx
        have so := ok.ok.all st (List.mem_of_getElem? hst)
        have hq : as[st.room]? = some (as[st.room]'(by rw [la]; exact so.room)) := List.getElem?_eq_getElem (by rw [la]; exact so.room)
        generalize as[st.room]'(by rw [la]; exact so.room) = q0 at hq
        obtain ⟨kvs, ek, ak⟩ := dr.all st.room q0 hq
        have kl : kvs.length < 60 := by
          rw [ak.1]
          refine Nat.lt_of_le_of_lt (List.length_filter_le _ _) ?_
          rw [List.length_take]
          omega
        have nq := nw q0 (List.mem_of_getElem? hq)
        have qD : q0 ≠ D := fun z => by
          rw [z, eD2] at ek
          cases ek
        refine ⟨t, _, rfl, .inl (.inl (s2 _ _ ht)), rfl, _, _, rfl, _, _, rfl, _, _, rfl, rfl, ?_⟩
        refine ⟨_, rfl, _, rfl, _, rfl, D, _, (st.room : Int), .ref q0, rfl, rfl, SqL.of eD2, atI_nat (by rw [List.getElem?_map, hq]; rfl), _, rfl, q0, _, rfl, DPut.k (k := .inr st.sign) ek (small1000 (by omega)), ?_⟩
        refine ⟨_, _, _, rfl, same_over s2 nq, by rw [upd_ne (Ne.symm qD)]; exact eD2, ?_⟩
        rw [List.take_add_one, hst]
        exact dr.put hq ek ak (s2 _ _ hw) (sel_new ok.ok.once hst)
      · obtain ⟨z2, z3, z4, rfl, s2, eD2, dr⟩ := h
        rw [av.1, List.take_length] at dr
        refine ⟨_, rfl, q G' D _ s2 eD2 (.of_ix (by unfold doorsL; rw [List.length_map, List.length_map, List.length_range, la]) fun i y hy => ?_)⟩
        rw [List.getElem?_map] at hy
        obtain ⟨c, hc, rfl⟩ := Option.map_eq_some_iff.mp hy
        have hi : i < m := by
          rw [← la]
          exact (List.getElem?_eq_some_iff.mp hc).1
        obtain ⟨kvs, ek, ak⟩ := dr.all i c hc
        exact ⟨doorOf out i, by unfold doorsL; rw [List.getElem?_map, List.getElem?_range hi]; rfl, c, kvs, rfl, ek, ak⟩
/-! ### words -/
end

end Fb

namespace Fb
open PySem PySem.Spec PyProof.Rows L2
section
variable {P : Program} {w : World} {K : PySem.W.Frag} {mg : Str → Option Value} {base : Heap}
/-! ### chances -/
def stepL (ds : List (List Stp)) (qs : List Rat) (z : Str) : List Rat := ds.map fun d => stepV z d qs
def chF (m : Nat) (ds : List (List Stp)) (rs : List Str) : List Rat := rs.foldl (stepL ds) (List.replicate m 1)
def chR (m : Nat) (out : List Stp) (zs : List Str) : List Rat := chF m (doorsL m out) zs.reverse
theorem chF_snoc (m : Nat) (ds : List (List Stp)) (rs : List Str) (z : Str) : chF m ds (rs ++ [z]) = stepL ds (chF m ds rs) z := by
  unfold chF
  rw [List.foldl_append]
  rfl
theorem valL_one (m : Nat) : valL (List.replicate m 1) 1 = List.replicate m (1 : Rat) := by
  unfold valL
  rw [List.map_replicate]
  congr 1
theorem mem_door {m : Nat} {out : List Stp} {d : List Stp} {s : Stp} (hd : d ∈ doorsL m out) (hs : s ∈ d) : s ∈ out := by
  obtain ⟨r, _, rfl⟩ := List.mem_map.mp hd
  exact (List.mem_filter.mp hs).1
theorem mok_sum {m : Nat} {out : List Stp} (ok : MOk m out) {s : Stp} (hs : s ∈ out) : 0 < s.ws.sum := by
  obtain ⟨n, hn, n0⟩ := (ok.ok.all s hs).wts.pos
  have := le_sum' hn
  omega
theorem doors_ok {m : Nat} {out : List Stp} (ok : MOk m out) : DsOk m (doorsL m out) :=
  ⟨ok.ok.m12, by unfold doorsL; rw [List.length_map, List.length_range], fun d hd s hs => (ok.ok.all s (mem_door hd hs)).wts.len, fun d hd s hs => mok_sum ok (mem_door hd hs)⟩
theorem doors_flat {m : Nat} {out : List Stp} {s : Stp} (hs : s ∈ (doorsL m out).flatten) : s ∈ out := by
  obtain ⟨d, hd, h⟩ := List.mem_flatten.mp hs
  exact mem_door hd h
theorem pw_lt {g G i b : Nat} (hg : g < 2 ^ G) (g0 : 0 < g) (h : b ∣ g ^ i) : b < 2 ^ (G * i + 1) := by
  have h1 := Nat.le_of_dvd (Nat.pow_pos g0) h
  have h2 := Nat.pow_le_pow_left (Nat.le_of_lt hg) i
  rw [← Nat.pow_mul] at h2
  have h3 := Nat.pow_pos (n := G * i) (show 0 < 2 by decide)
  rw [Nat.pow_succ]
  omega
theorem lev_bd {ts : List Nat} {b n : Nat} (b0 : 0 < b) (tb' : ∀ n ∈ ts, n ≤ b) (hb : b < 2 ^ n) : ∀ q ∈ valL ts b, Bd n q ∧ 0 ≤ q ∧ q ≤ 1 := fun q hq => by
  obtain ⟨t, ht, rfl⟩ := List.mem_map.mp hq
  have tl := tb' t ht
  refine ⟨.divInt (by omega) (nat_abs (Nat.lt_of_le_of_lt tl hb)) (nat_abs hb), Rat.divInt_nonneg (by omega) (by omega), ?_⟩
  have e : (1 : Rat) = Rat.divInt (b : Int) (b : Int) := (Rat.divInt_self' (by omega)).symm
  rw [e, ← Rat.not_lt, lt_cross (by omega) (by omega), ← Int.sub_mul]
  have h0 : (0 : Int) ≤ (b : Int) := by omega
  have h1 := Int.mul_nonneg (Int.mul_nonneg (Int.mul_nonneg (show (0 : Int) ≤ (b : Int) - (t : Int) by omega) h0) h0) h0
  omega
end

end Fb

namespace Fb
open PySem PySem.Spec PyProof.Rows L2
section
/-! ### steps by sign: of W7 and G1 -/
theorem sel_some {out : List Stp} (once : (out.map Stp.key).Nodup) {s : Stp} (hs : s ∈ out) : selD s.sign (doorOf out s.room) = some s := by
  have hm : s ∈ doorOf out s.room := List.mem_filter.mpr ⟨hs, decide_eq_true rfl⟩
  unfold selD
  cases e : (doorOf out s.room).find? fun u => decide (u.sign = s.sign) with
  | none =>
    have := List.find?_eq_none.mp e s hm
    simp at this
  | some u =>
    have h1 : u.sign = s.sign := of_decide_eq_true (List.find?_some (p := fun (u : Stp) => decide (u.sign = s.sign)) e)
    have h2 := List.mem_filter.mp (List.mem_of_find?_eq_some e)
    have h3 : u.room = s.room := of_decide_eq_true h2.2
    obtain ⟨i, hi, ei⟩ := List.mem_iff_getElem.mp hs
    obtain ⟨j, hj, ej⟩ := List.mem_iff_getElem.mp h2.1
    have g1 : (out.map Stp.key)[i]? = some s.key := by rw [List.getElem?_map, List.getElem?_eq_getElem hi, ei]; rfl
    have g2 : (out.map Stp.key)[j]? = some s.key := by
      rw [List.getElem?_map, List.getElem?_eq_getElem hj, ej]
      exact congrArg some (Prod.ext (by show (u.room : Int) = s.room; rw [h3]) h1)
    have := nodup_inj once g1 g2
    subst this
    rw [← ei, ← ej]
theorem sel_none {out : List Stp} {r : Nat} {z : Str} (h : ∀ s ∈ out, ¬ (s.room = r ∧ s.sign = z)) : selD z (doorOf out r) = none := by
  unfold selD
  rw [List.find?_eq_none]
  intro s hs c
  have hs := List.mem_filter.mp hs
  exact h s hs.1 ⟨of_decide_eq_true hs.2, of_decide_eq_true c⟩
theorem step_some {out : List Stp} {qs : List Rat} (once : (out.map Stp.key).Nodup) {s : Stp} (hs : s ∈ out) : stepV s.sign (doorOf out s.room) qs = dot (hpW s.ws) qs := by
  unfold stepV
  rw [sel_some once hs]
theorem step_none {out : List Stp} {qs : List Rat} {r : Nat} {z : Str} (h : ∀ s ∈ out, ¬ (s.room = r ∧ s.sign = z)) : stepV z (doorOf out r) qs = 0 := by
  unfold stepV
  rw [sel_none h]
theorem step_or (out : List Stp) (r : Nat) (z : Str) : (∃ s ∈ out, s.room = r ∧ s.sign = z) ∨ ∀ s ∈ out, ¬ (s.room = r ∧ s.sign = z) := by
  by_cases h : ∃ s ∈ out, s.room = r ∧ s.sign = z
  · exact .inl h
  · exact .inr fun s hs c => h ⟨s, hs, c⟩
theorem hpW_low {ws : List Nat} (pos : ∃ n ∈ ws, 0 < n) : hpW (low ws) = hpW ws := by
  have g0 := gcdF_pos (g := 0) pos
  have hb := low_back ws
  have hs : ws.sum = gcdF 0 ws * (low ws).sum := by
    conv => lhs; rw [← hb]
    generalize low ws = l
    induction l with
    | nil => rfl
    | cons n l ih => rw [List.map_cons, List.sum_cons, List.sum_cons, ih, Nat.mul_add]
  unfold hpW
  conv => rhs; rw [hs]
  conv => rhs; rhs; rw [← hb]
  rw [List.map_map]
  refine List.map_congr_left fun n _ => ?_
  show _ = Rat.divInt ((gcdF 0 ws * n : Nat) : Int) ((gcdF 0 ws * (low ws).sum : Nat) : Int)
  rw [Int.natCast_mul, Int.natCast_mul, Rat.divInt_mul_left (by omega)]
theorem step_raw {m : Nat} {ss out : List Stp} (ok : StpsOk m ss) (so : SortedOf ss out) (z : Str) (r : Nat) (qs : List Rat) : stepV z (doorOf ss r) qs = stepV z (doorOf out r) qs := by
  have mok := mok_of ok so
  rcases step_or ss r z with ⟨s, hs, rfl, rfl⟩ | h
  · have h2 : lowS s ∈ out := so.1.mem_iff.mpr (List.mem_map_of_mem hs)
    have e := step_some (qs := qs) mok.ok.once h2
    rw [step_some ok.once hs]
    refine Eq.trans ?_ e.symm
    show dot (hpW s.ws) qs = dot (hpW (low s.ws)) qs
    rw [hpW_low (ok.all s hs).wts.pos]
  · rw [step_none h, step_none fun s2 h2 c => ?_]
    obtain ⟨s, hs, rfl⟩ := List.mem_map.mp (so.1.mem_iff.mp h2)
    exact h s hs c
end

end Fb

namespace Fb
open PySem PySem.Spec PyProof.Rows L2
section
variable {P : Program} {w : World} {K : PySem.W.Frag} {mg : Str → Option Value} {base : Heap}
theorem low_sum_le (ws : List Nat) : (low ws).sum ≤ ws.sum := by
  unfold low
  generalize gcdF 0 ws = g
  induction ws with
  | nil => exact Nat.le_refl _
  | cons n ws ih =>
    rw [List.map_cons, List.sum_cons, List.sum_cons]
    have := Nat.div_le_self n g
    omega
theorem sum_le_mul {b : Nat} : ∀ ws : List Nat, (∀ n ∈ ws, n ≤ b) → ws.sum ≤ ws.length * b
  | [], _ => Nat.zero_le _
  | n :: ws, h => by
    have h1 := h n List.mem_cons_self
    have h2 := sum_le_mul ws fun x hx => h x (List.mem_cons_of_mem _ hx)
    rw [List.sum_cons, List.length_cons, Nat.succ_mul]
    omega
theorem out_sums {ss out : List Stp} {c : Nat} (so : SortedOf ss out) (h : ∀ s ∈ ss, s.ws.sum ≤ c) : (∀ s ∈ out, s.ws.sum ≤ c) ∧ out.length = ss.length := by
  refine ⟨fun s hs => ?_, by rw [so.1.length_eq, List.length_map]⟩
  obtain ⟨s0, h0, rfl⟩ := List.mem_map.mp (so.1.mem_iff.mp hs)
  exact Nat.le_trans (low_sum_le s0.ws) (h s0 h0)
theorem grain_bd {out : List Stp} {c S N G : Nat} (h : ∀ s ∈ out, s.ws.sum ≤ c) (hc : c < 2 ^ S) (hl : out.length ≤ N) (hG : 1 + S * N ≤ G) : grainF 1 out < 2 ^ G := by
  refine Nat.lt_of_lt_of_le (grainF_lt (S := S) (a := 1) (fun s hs => Nat.lt_of_le_of_lt (h s hs) hc) (by decide)) (Nat.pow_le_pow_right (by decide) ?_)
  have := Nat.mul_le_mul_left S hl
  omega
theorem DS.sums {m k : Nat} {zs : List Str} {ss : List Stp} (h : DS m zs m 0 ss) (ok : NmsOk k zs) (k4 : k ≤ 4) (m1 : 1 ≤ m) (m12 : m ≤ 12) : StpsOk m ss ∧ ss.length ≤ m * k ∧ ∀ s ∈ ss, s.ws.sum ≤ m * 20 := by
  have h1 := h.len
  rw [ok.len] at h1
  have h2 : m * k ≤ 12 * 4 := Nat.mul_le_mul m12 k4
  refine ⟨⟨m1, m12, by omega, fun s hs => (h.all s hs).1, h.once⟩, by omega, fun s hs => ?_⟩
  have o := h.all s hs
  have := sum_le_mul s.ws o.2.2.1
  rw [o.1.wts.len] at this
  exact this
end

end Fb

namespace Fb
open PySem PySem.Spec PyProof.Rows L2
section
variable {P : Program} {w : World} {K : PySem.W.Frag} {mg : Str → Option Value} {base : Heap}
/-! ### rows of books -/
inductive Arg
  | sg (z : Str)
  | nu (n : Nat)
  | sh (q : Rat)
structure Rw where
  word : Str
  args : List Arg
def kindA : Arg → Str
  | .sg _ => "sign"
  | .nu _ => "number"
  | .sh _ => "share"
def forms : List (Str × List Str) := [("one", []), ("can", ["sign"]), ("on", ["sign", "number"]), ("not", ["number"]), ("less", ["number", "share"]), ("both", ["number", "number"]), ("either", ["number", "number"])]
def ArgOk (i : Nat) : Arg → Prop
  | .sg z => NmOk z
  | .nu n => n < i
  | .sh q => 0 ≤ q.num ∧ q.num ≤ (q.den : Int) ∧ Bd 100 q
structure RwOk (i : Nat) (r : Rw) : Prop where
  form : (r.word, r.args.map kindA) ∈ forms
  args : ∀ a ∈ r.args, ArgOk i a
def BkOk (rs : List Rw) : Prop := ∀ (i : Nat) r, rs[i]? = some r → RwOk i r
abbrev ShR := Hp → V → Rat → Prop
def ShM (S : ShR) : Prop := ∀ H H' v q, Same H H' → S H v q → S H' v q
def SB (C : Addr) : ShR := fun H v q => IsShare C H v q
def SL : ShR := fun H v q => IsTup2 H v q.num (q.den : Int)
theorem SB.m (C : Addr) : ShM (SB C) := fun _ _ _ _ s h => IsShare.mono h s
theorem SL.m : ShM SL := fun _ _ _ _ s h => IsTup2.mono h s
def IsArg (S : ShR) (H : Hp) (v : V) : Arg → Prop
  | .sg z => v = .str z
  | .nu n => v = .int (n : Int)
  | .sh q => S H v q
theorem IsArg.mono {S : ShR} (hS : ShM S) {H H' : Hp} {v : V} {a : Arg} (s : Same H H') (h : IsArg S H v a) : IsArg S H' v a := by
  cases a with
  | sg z => exact h
  | nu n => exact h
  | sh q => exact hS _ _ _ _ s h
def IsRw (S : ShR) (H : Hp) (v : V) (r : Rw) : Prop := ∃ t vs, v = .ref t ∧ H t = some (.tup (.str r.word :: vs)) ∧ AllAre (IsArg S H) vs r.args
theorem IsRw.mono {S : ShR} (hS : ShM S) {H H' : Hp} {v : V} {r : Rw} (s : Same H H') (h : IsRw S H v r) : IsRw S H' v r := by
  obtain ⟨t, vs, e, h1, a⟩ := h
  exact ⟨t, vs, e, s _ _ h1, a.imp fun _ _ h => h.mono hS s⟩
theorem form_len {i : Nat} {r : Rw} (h : RwOk i r) : r.args.length ≤ 2 := by
  have e : (r.args.map kindA).length ≤ 2 := by
    have h := h.form
    generalize r.word = z at h
    generalize r.args.map kindA = ks at h
    simp only [forms, List.mem_cons, Prod.mk.injEq, List.not_mem_nil, or_false] at h
    rcases h with ⟨_, rfl⟩ | ⟨_, rfl⟩ | ⟨_, rfl⟩ | ⟨_, rfl⟩ | ⟨_, rfl⟩ | ⟨_, rfl⟩ | ⟨_, rfl⟩ <;> simp
  rw [List.length_map] at e
  exact e
theorem kd_FORMS (T : Txt K mg) (hw : T.prm = w.params) : KDict K w T.u_FORMS T.e_FORMS T.n_FORMS := ⟨T.at_FORMS, hw ▸ T.lit_FORMS, T.low_FORMS⟩
/-- what stands in FORMS -/
theorem form_at (T : Txt K mg) (hw : T.prm = w.params) {z : Str} {ks : List Str} (h : (z, ks) ∈ forms) : ∃ t, PySem.W.nsIn K T.u_FORMS z = some (some (.ref t)) ∧ KDct K w T.u_FORMS z (.ref t) ∧ SqK K t (ks.map V.str) := by
  have fin : ∀ {z : Str} {t : Addr}, PySem.W.nsIn K T.u_FORMS z = some (some (.ref t)) → KDct K w T.u_FORMS z (.ref t) := fun h => ⟨_, _, _, T.at_FORMS, hw ▸ T.lit_FORMS, h, rfl⟩
  simp only [forms, List.mem_cons, Prod.mk.injEq, List.not_mem_nil, or_false] at h
  rcases h with ⟨rfl, rfl⟩ | ⟨rfl, rfl⟩ | ⟨rfl, rfl⟩ | ⟨rfl, rfl⟩ | ⟨rfl, rfl⟩ | ⟨rfl, rfl⟩ | ⟨rfl, rfl⟩
  · exact ⟨_, T.k_FORMS_0, fin T.k_FORMS_0, T.v_FORMS_0⟩
  · exact ⟨_, T.k_FORMS_1, fin T.k_FORMS_1, T.v_FORMS_1⟩
  · exact ⟨_, T.k_FORMS_2, fin T.k_FORMS_2, T.v_FORMS_2⟩
  · exact ⟨_, T.k_FORMS_3, fin T.k_FORMS_3, T.v_FORMS_3⟩
  · exact ⟨_, T.k_FORMS_4, fin T.k_FORMS_4, T.v_FORMS_4⟩
  · exact ⟨_, T.k_FORMS_5, fin T.k_FORMS_5, T.v_FORMS_5⟩
  · exact ⟨_, T.k_FORMS_6, fin T.k_FORMS_6, T.v_FORMS_6⟩
theorem str_ne {a b : Str} (h : a ≠ b) : decide (V.str a = V.str b) = false := decide_eq_false fun z => h (V.str.inj z)
/-! ### is_such, is_row, check_book, of good ones -/
def spSuch (C : Addr) : Sp := fun vs H Q _ => ∃ (v : V) (a : Arg) (i : Nat), vs = [v, .str (kindA a), .int i] ∧ IsArg (SB C) H v a ∧ ArgOk i a ∧ ∀ H', Same H H' → Q (.bl true) H'
theorem ok_p_is_such (T : Txt K mg) : FnOk P w K mg base CX0 2 T.f_p_is_such T.d_p_is_such ["thing", "kind", "at"] (spSuch T.c_Share) := by
  refine T.F_p_is_such.ok sc_p_is_such (fun vs H Q E h => ?_) (fun cdv A outer s H vs Q E hr h => ?_)
  · obtain ⟨v, a, i, rfl, _⟩ := h
    rfl
  · obtain ⟨v, a, i, rfl, hv, ok, q⟩ := h
    refine ⟨_, (pss_cons (ps_if (pt_cmpR op_eq (pv 1) pe_str (nomark _))
  (pss_one (ps_ret (pe_call (ok_p_is_name T) (hr.mono (by decide)) (by rfl) T.g_p_is_name T.F_p_is_name.kp T.b_p_is_name .nil pass0 (pa_cons (pv 0) pa_nil))))
  pss_nil)
 (pss_cons (ps_if (pt_cmpR op_eq (pv 1) pe_str (nomark _))
  (pss_one (ps_ret (pe_and (pe_call (ok_p_is_whole T) (hr.mono (by decide)) (by rfl) T.g_p_is_whole T.F_p_is_whole.kp T.b_p_is_whole .nil pass0 (pa_cons (pv 0) pa_nil)) (pe_one (pe_chain op_le op_lt pe_int (pv 0) (pv 2))))))
  pss_nil)
 (pss_one (ps_ret (pe_and (pe_callB call_isi (by rfl) T.z_isinstance (by decide +kernel) (pa_cons (pv 0) (pa_cons (pe_glob (v := .ref T.c_Share) (by rfl) T.g_Share rfl) pa_nil))) (pe_one (pe_chain op_le op_le pe_int (pe_fld (pv 0) rfl) (pe_fld (pv 0) rfl)))))))), ?_⟩
    refine ⟨_, rfl, rfl, _, rfl, ?_⟩
    cases a with
    | sg z =>
      obtain rfl : v = .str z := hv
      refine iteT ?_
      exact ⟨_, rfl, z, rfl, ok, fun H' s' => q H' s'⟩
    | nu n =>
      obtain rfl : v = .int (n : Int) := hv
      have ok : n < i := ok
      refine iteF ?_
      refine ⟨_, rfl, rfl, _, rfl, iteT ?_⟩
      refine ⟨_, rfl, (n : Int), rfl, true, rfl, iteT ?_⟩
      refine ⟨_, rfl, _, _, rfl, rfl, true, congrArg V.bl (decide_eq_true (by omega)), iteT ⟨_, rfl, _, _, rfl, rfl, ?_⟩⟩
      dsimp only
      rw [decide_eq_true (show (n : Int) < (i : Int) by omega)]
      exact q H (Same.refl _)
    | sh z =>
      obtain ⟨p, dx, rfl, hx⟩ : IsShare T.c_Share H v z := hv
      obtain ⟨o1, o2, _⟩ := ok
      refine iteF ?_
      refine ⟨_, rfl, rfl, _, rfl, iteF ?_⟩
      refine ⟨_, rfl, _, _, _, _, true, rfl, .own _, tyShare T hx, T.k_Share, true, rfl, iteT ?_⟩
      refine ⟨_, rfl, _, _, _, _, _, rfl, hx, T.cl_Share, T.n_Share_top, flds_top _, _, _, rfl, rfl, true, congrArg V.bl (decide_eq_true o1), iteT ⟨_, rfl, _, _, _, _, _, rfl, hx, T.cl_Share, T.n_Share_bottom, flds_bottom _, _, _, rfl, rfl, ?_⟩⟩
      dsimp only
      rw [decide_eq_true o2]
      exact q H (Same.refl _)
def spIsRow (C : Addr) : Sp := fun vs H Q _ => ∃ (v : V) (r : Rw) (i : Nat), vs = [v, .int i] ∧ IsRw (SB C) H v r ∧ RwOk i r ∧ ∀ H', Same H H' → Q (.bl true) H'
theorem ok_p_is_row (T : Txt K mg) (hw : T.prm = w.params) : FnOk P w K mg base CX0 3 T.f_p_is_row T.d_p_is_row ["thing", "at"] (spIsRow T.c_Share) := by
  refine T.F_p_is_row.ok sc_p_is_row (fun vs H Q E h => ?_) (fun cdv A outer s H vs Q E hr h => ?_)
  · obtain ⟨v, r, i, rfl, _⟩ := h
    rfl
  · obtain ⟨v, r, i, rfl, ⟨t, vs, rfl, ht, av⟩, ok, q⟩ := h
    refine ⟨_, (pss_cons (ps_if (PW.pt (pw_or (pt_not (pt_val (pe_callB call_isi (by rfl) T.z_isinstance (by decide +kernel) (pa_cons (pv 0) (pa_cons (pe_bltn (v := .ty "tuple") (by rfl) T.z_tuple (by decide +kernel) rfl) pa_nil))))) (pw_or (pt_cmpR op_eq (pe_callB call_len_seq (by rfl) T.z_len (by decide +kernel) (pa_cons (pv 0) pa_nil)) pe_int (nomark _)) (pw_or (pt_not (pt_val (pe_callB call_isi (by rfl) T.z_isinstance (by decide +kernel) (pa_cons (pe_ix ix_tup (pv 0) pe_int (fun _ _ => rfl)) (pa_cons (pe_bltn (v := .ty "str") (by rfl) T.z_str (by decide +kernel) rfl) pa_nil))))) (pw_or1 (pt_cmpR (op_notIn_kd (kd_FORMS T hw)) (pe_ix ix_tup (pv 0) pe_int (fun _ _ => rfl)) (pe_glob (v := .ref T.u_FORMS) (by rfl) T.g_FORMS rfl) (by with_unfolding_all rfl)))))))
  (pss_one (ps_ret pe_bl))
  pss_nil)
 (pss_cons (ps_set (i := 2) sc_p_is_row.nd rfl (.inl rfl) (pe_ix ix_kdict (pe_glob (v := .ref T.u_FORMS) (by rfl) T.g_FORMS rfl) (pe_ix ix_tup (pv 0) pe_int (fun _ _ => rfl)) (fun _ _ => rfl)))
 (pss_cons (ps_if (pt_cmpR op_ne (pe_callB call_len_seq (by rfl) T.z_len (by decide +kernel) (pa_cons (pv 0) pa_nil)) (pe_op op_add pe_int (pe_callB call_len_seq (by rfl) T.z_len (by decide +kernel) (pa_cons (pv 2) pa_nil))) (nomark _))
  (pss_one (ps_ret pe_bl))
  pss_nil)
 (pss_one (ps_ret (pe_callB (cr_all rfl) (by rfl) T.z_all (by decide +kernel) (pa_cons (pe_lc (own := [("each", 3), ("kind", 4)]) (g := (gTup K 2 (gCons (gName 3) (gCons (gName 4) gNil)))) (tt := tYes) (by rfl) sc_p_is_row.nd (RZ.pi_zipA (by rfl) T.z_zip (pa_cons (pe_slice sl_tup (pv 0) (po_some pe_int) po_none) (pa_cons (pv 2) pa_nil))) (blkOk_by (own := [("each", 3), ("kind", 4)]) (N := ["thing", "at", "kinds", "each", "kind"]) (sc := defScope s_p_is_row) (by decide +kernel)) (fun _ _ _ _ _ => by exact (pg_tup (by rfl) (pgs_cons (pg_name (i := 3) sc_p_is_row.nd rfl (.inl rfl)) (pgs_cons (pg_name (i := 4) sc_p_is_row.nd rfl (.inl rfl)) pgs_nil)))) (fun _ _ _ _ _ => by exact pts_nil) (fun _ _ _ _ _ => by exact (pe_call (ok_p_is_such T) (hr.mono (by decide)) (by rfl) T.g_p_is_such T.F_p_is_such.kp T.b_p_is_such .nil pass0 (pa_cons (pv 3) (pa_cons (pv 4) (pa_cons (pv 1) pa_nil)))))) pa_nil))))))), ?_⟩
    obtain ⟨tk, f1, f2, f3⟩ := form_at T hw ok.form
    have l2 := form_len ok
    have lv : vs.length = r.args.length := av.1
    have sq : SqT K H t (.str r.word :: vs) := .inl (.inl ht)
    refine ⟨_, rfl, _, _, _, _, true, rfl, .ty _, .base (.tup ht), kit_ty (by decide +kernel), true, rfl, iteF ?_⟩
    refine ⟨_, rfl, t, _, rfl, .inr sq, rfl, _, rfl, ?_⟩
    rw [decide_eq_false (fun z => by have := V.int.inj z; simp at this; omega)]
    refine iteF ?_
    refine ⟨_, rfl, t, _, _, _, rfl, rfl, sq, atI_nat (j := 0) rfl, _, _, _, _, true, rfl, .ty _, .base (.str _), kit_ty (by decide +kernel), true, rfl, iteF ?_⟩
    refine ⟨_, rfl, t, _, _, _, rfl, rfl, sq, atI_nat (j := 0) rfl, r.word, _, rfl, rfl, f1, _, rfl, iteF ?_⟩
    refine ⟨_, rfl, t, _, _, _, rfl, rfl, sq, atI_nat (j := 0) rfl, T.u_FORMS, r.word, .ref tk, rfl, rfl, f2, ?_⟩
    refine ⟨_, rfl, t, _, rfl, .inr sq, _, rfl, tk, _, rfl, .inr f3.sq, _, _, rfl, rfl, rfl, _, rfl, ?_⟩
    rw [decide_eq_true (show V.int (((V.str r.word :: vs).length : Nat) : Int) = V.int (1 + (((r.args.map kindA).map V.str).length : Nat)) by
      congr 1
      simp
      omega)]
    refine iteF ?_
    refine ⟨_, rfl, 1, rfl, t, _, rfl, sq, tail_part _ _, fun p np => ?_⟩
    rw [cut_tail]
    have sp := same_upd (o := .tup vs) np
    have ep : (upd H p (.tup vs)) p = some (.tup vs) := upd_same
    have lk : ((r.args.map kindA).map V.str).length = r.args.length := by simp
    refine ⟨_, rfl, p, tk, _, _, rfl, .inr ⟨.inl (.inl ep), f3.sq, fun D nD => lc_allW (walk_zipT (K := K) (a := p) (b := tk) (xs := vs) (ys := (r.args.map kindA).map V.str) (n := r.args.length) (by rw [lk, lv, Nat.min_self])) (fun _ y _ => y = .bl true) (fun _ _ _ _ _ h => h) nD (fun H' s => ⟨.inl (.inl (s _ _ ep)), f3.sq⟩) (by omega) (fun j x H2 H3 k hj s2 eD y hk => ?_) (fun H2 ys s2 e l h2 => ?_)⟩⟩
    · obtain ⟨tt, x1, y1, rfl, nt, rfl, ex, ey⟩ := y
      have ey : ((r.args.map kindA).map V.str)[j]? = some y1 := ey
      rw [List.getElem?_map, List.getElem?_map] at ey
      obtain ⟨a, ha, hx⟩ := av.at (show vs[j]? = some x1 from ex)
      rw [ha] at ey
      obtain rfl : V.str (kindA a) = y1 := Option.some.inj ey
      have st := same_upd (o := .tup [x1, .str (kindA a)]) nt
      refine ⟨tt, _, rfl, .inl (.inl upd_same), rfl, _, _, rfl, _, _, rfl, rfl, rfl, ?_⟩
      refine ⟨_, rfl, _, rfl, _, rfl, x1, a, i, rfl, hx.mono (SB.m _) (sp.trans ((s2.trans hid_same).trans st)), ok.args a (List.mem_of_getElem? ha), fun H4 s4 => hk _ _ (st.trans s4) rfl⟩
    · rw [trues l h2] at e
      refine ⟨D, _, rfl, SqL.of e, ?_⟩
      rw [all_trues]
      exact q H2 (sp.trans (s2.trans hid_same))
def IsBk (S : ShR) (H : Hp) (v : V) (rs : List Rw) : Prop := ∃ b vs, v = .ref b ∧ H b = some (.lst vs) ∧ AllAre (IsRw S H) vs rs
def spChkB (C : Addr) : Sp := fun vs H Q _ => ∃ (b : Addr) (xs : List V) (rs : List Rw), vs = [.ref b] ∧ H b = some (.lst xs) ∧ AllAre (IsRw (SB C) H) xs rs ∧ BkOk rs ∧ rs ≠ [] ∧ rs.length ≤ 300 ∧ ∀ H', Same H H' → Q .non H'
theorem ok_p_check_book (T : Txt K mg) (hw : T.prm = w.params) : FnOk P w K mg base CX0 4 T.f_p_check_book T.d_p_check_book ["thing"] (spChkB T.c_Share) := by
  refine T.F_p_check_book.ok sc_p_check_book (fun vs H Q E h => ?_) (fun cdv A outer s H vs Q E hr h => ?_)
  · obtain ⟨b, xs, rs, rfl, _⟩ := h
    rfl
  · obtain ⟨b, xs, rs, rfl, hb, av, ok, ne, l3, q⟩ := h
    refine ⟨_, PSs.nox (pss_cons (ps_if (PW.pt (pw_or (pt_not (pt_val (pe_callB call_isi (by rfl) T.z_isinstance (by decide +kernel) (pa_cons (pv 0) (pa_cons (pe_bltn (v := .ty "list") (by rfl) T.z_list (by decide +kernel) rfl) pa_nil))))) (pw_or1 (pt_cmpR op_eq (pe_callB call_len_seq (by rfl) T.z_len (by decide +kernel) (pa_cons (pv 0) pa_nil)) pe_int (nomark _)))))
  (pss_one ps_never)
  pss_nil)
 (pss_one (ps_if (pt_not (pt_val (pe_callB (cr_all rfl) (by rfl) T.z_all (by decide +kernel) (pa_cons (pe_lc (own := [("at", 1), ("row", 2)]) (g := (gTup K 2 (gCons (gName 1) (gCons (gName 2) gNil)))) (tt := tYes) (by rfl) sc_p_check_book.nd (pi_enum (by rfl) T.z_enumerate (pa_cons (pv 0) pa_nil)) (blkOk_by (own := [("at", 1), ("row", 2)]) (N := ["thing", "at", "row"]) (sc := defScope s_p_check_book) (by decide +kernel)) (fun _ _ _ _ _ => by exact (pg_tup (by rfl) (pgs_cons (pg_name (i := 1) sc_p_check_book.nd rfl (.inl rfl)) (pgs_cons (pg_name (i := 2) sc_p_check_book.nd rfl (.inl rfl)) pgs_nil)))) (fun _ _ _ _ _ => by exact pts_nil) (fun _ _ _ _ _ => by exact (pe_call (ok_p_is_row T hw) (hr.mono (by decide)) (by rfl) T.g_p_is_row T.F_p_is_row.kp T.b_p_is_row .nil pass0 (pa_cons (pv 2) (pa_cons (pv 1) pa_nil))))) pa_nil))))
  (pss_one ps_never)
  pss_nil))), ?_⟩
    have lx : xs.length = rs.length := av.1
    have l0 : rs.length ≠ 0 := fun z => ne (List.length_eq_zero_iff.mp z)
    refine ⟨_, rfl, _, _, _, _, true, rfl, .ty _, .base (.lst hb), kit_ty (by decide +kernel), true, rfl, iteF ?_⟩
    refine ⟨_, rfl, b, _, rfl, .inl (SqL.of hb), rfl, _, rfl, ?_⟩
    rw [decide_eq_false (fun z => by have := V.int.inj z; omega)]
    refine iteF ?_
    refine ⟨_, rfl, b, _, rfl, SqL.of hb, fun D nD => lc_allW (walk_enum (K := K) (a := b) (xs := xs)) (fun _ y _ => y = .bl true) (fun _ _ _ _ _ h => h) nD (fun H' s => SqL.of (s _ _ hb)) (by omega) (fun j x H2 H3 k hj s2 eD y hk => ?_) (fun H2 ys s2 e l h2 => ?_)⟩
    · obtain ⟨tt, x1, y1, rfl, nt, rfl, ex, ey⟩ := y
      cases ex
      obtain ⟨r, hr', hx⟩ := av.at (show xs[j]? = some y1 from ey)
      have st := same_upd (o := .tup [.int (j : Nat), y1]) nt
      refine ⟨tt, _, rfl, .inl (.inl upd_same), rfl, _, _, rfl, _, _, rfl, rfl, rfl, ?_⟩
      exact ⟨_, rfl, _, rfl, y1, r, j, rfl, hx.mono (SB.m _) ((s2.trans hid_same).trans st), ok j r hr', fun H4 s4 => hk _ _ (st.trans s4) rfl⟩
    · rw [trues l h2] at e
      refine ⟨D, _, rfl, SqL.of e, true, by rw [all_trues], iteF ?_⟩
      exact q H2 (s2.trans hid_same)
end

end Fb

namespace Fb
open PySem PySem.Spec PyProof.Rows L2
section
variable {P : Program} {w : World} {K : PySem.W.Frag} {mg : Str → Option Value} {base : Heap}
/-! ### the law's lowest terms, and a share from 0 to 1 -/
def spLow : Sp := fun vs H Q _ => ∃ (t b : Int), vs = [.int t, .int b] ∧ 0 < b ∧ b.natAbs.log2 < 9000 ∧
  ∀ H' r, Same H H' → IsTup2 H' r (Rat.divInt t b).num ((Rat.divInt t b).den : Int) → Q r H'
theorem ok_l_low (T : Txt K mg) : FnOk P w K mg base CX0 1 T.f_l_low T.d_l_low ["_law_top", "_law_bottom"] spLow := by
  refine T.F_l_low.ok sc_l_low (fun vs H Q E h => ?_) (fun cdv A outer s H vs Q E hr h => ?_)
  · obtain ⟨t, b, rfl, _⟩ := h
    rfl
  · obtain ⟨t, b, rfl, b0, hl, q⟩ := h
    have hb : b ≠ 0 := by omega
    refine ⟨_, (pss_cons (ps_par (i := 2) (j := 3) (by rfl) sc_l_low.nd rfl rfl (by decide) rfl rfl (pa_cons (pe_callB call_abs (by rfl) T.z_abs (by decide +kernel) (pa_cons (pv 0) pa_nil)) (pa_cons (pv 1) pa_nil)) (by rfl))
 (pss_cons (ps_while PassesOwn.never (pt_cmpR op_ne (pv 3) pe_int (nomark _))
  (pss_one (ps_par (i := 2) (j := 3) (by rfl) sc_l_low.nd rfl rfl (by decide) rfl rfl (pa_cons (pv 3) (pa_cons (pe_op op_mod (pv 2) (pv 3)) pa_nil)) (by rfl))))
 (pss_one (ps_ret (pe_tup (pa_cons (pe_op op_fdivZ (pv 0) (pv 2)) (pa_cons (pe_op op_fdivZ (pv 1) (pv 2)) pa_nil))))))), ?_⟩
    refine ⟨_, rfl, t, rfl, _, rfl, _, _, rfl, ?_⟩
    refine ⟨fun m σ H' => ∃ x y : Int, σ = [some (.int t), some (.int b), some (.int x), some (.int y)] ∧ m = y.toNat ∧ 0 ≤ x ∧ 0 ≤ y ∧ Int.gcd x y = Int.gcd t b ∧ H' = H, ⟨_, (if t < 0 then -t else t), b, rfl, rfl, by split <;> omega, by omega, ?_, rfl⟩, fun m σ H' hW => ?_⟩
    · split <;> simp [Int.neg_gcd]
    · obtain ⟨x, y, rfl, rfl, x0, y0, hg, rfl⟩ := hW
      refine ⟨_, rfl, rfl, _, rfl, ite2 (fun h => ?_) (fun h => ?_)⟩
      · have hy : 0 < y := by
          have : ¬ y = 0 := fun z => by
            rw [z] at h
            exact absurd h (by decide)
          omega
        refine ⟨fun σ' H'' => σ' = [some (.int t), some (.int b), some (.int y), some (.int (x % y))] ∧ H'' = H', fun σ' H'' h => ?_, ?_⟩
        · obtain ⟨rfl, rfl⟩ := h
          have e1 := Int.emod_nonneg x (Int.ne_of_gt hy)
          have e2 := Int.emod_lt_of_pos x hy
          refine ⟨_, by omega, y, _, rfl, rfl, y0, e1, ?_, rfl⟩
          rw [← hg, ← gcd_step x y, Int.fmod_eq_emod_of_nonneg x y0]
        · exact ⟨_, rfl, _, rfl, _, rfl, _, _, rfl, rfl, hy, _, _, rfl, rfl, rfl⟩
      · have hy : y = 0 := by
          by_cases z : y = 0
          · exact z
          · exfalso
            apply h
            rw [decide_eq_false (fun e => z (V.int.inj e))]
            rfl
        subst hy
        have ec : x = cut t b := by
          unfold cut
          rw [if_neg (by omega), ← hg, Int.gcd_zero_right]
          omega
        have hd : ∀ i, CDivZ i (cut t b) := fun _ => ⟨cut_ne hb, Nat.lt_of_le_of_lt (log2_mono (cut_le hb)) hl⟩
        rw [ec]
        refine ⟨_, rfl, _, rfl, _, _, rfl, rfl, hd _, _, rfl, _, rfl, _, _, rfl, rfl, hd _, by show 2 ≤ sizeLine; decide, fun p np => ?_⟩
        refine q _ _ (same_upd np) ⟨p, rfl, ?_⟩
        dsimp only
        rw [upd_same, cut_top hb, cut_bottom hb]
theorem low_unit {t b : Int} (t0 : 0 ≤ t) (tb : t ≤ b) (b0 : 0 < b) : 0 ≤ (Rat.divInt t b).num ∧ (Rat.divInt t b).num ≤ ((Rat.divInt t b).den : Int) := by
  have hb : b ≠ 0 := by omega
  have g0 : 0 < cut t b := by
    have h1 : cut t b = (Int.gcd t b : Int) := by
      unfold cut
      rw [if_neg (by omega)]
    have h2 := cut_ne (t := t) hb
    rw [h1] at h2 ⊢
    omega
  rw [← cut_top hb, ← cut_bottom hb, Int.fdiv_eq_ediv_of_nonneg _ (by omega), Int.fdiv_eq_ediv_of_nonneg _ (by omega)]
  exact ⟨Int.ediv_nonneg t0 (by omega), Int.ediv_le_ediv g0 tb⟩
def spShr : Sp := fun vs H Q _ => ∃ (a : Addr) (n : Nat), vs = [.ref a] ∧ WellAt H a (n + 3) ∧ ∀ (q : Rat) v H', 0 ≤ q.num → q.num ≤ (q.den : Int) → Bd 100 q → Same (hid a H) (hid a H') → WellAt H' a n → IsTup2 (hid a H') v q.num (q.den : Int) → Q v H'
theorem three_at {i : Nat} {x : V} (h : [V.int 3, V.int 9, V.int 60][i]? = some x) : ∃ l : Nat, 1 ≤ l ∧ l ≤ 60 ∧ x = .int l := by
  match i with
  | 0 => cases h; exact ⟨3, by omega, by omega, rfl⟩
  | 1 => cases h; exact ⟨9, by omega, by omega, rfl⟩
  | 2 => cases h; exact ⟨60, by omega, by omega, rfl⟩
  | k + 3 => cases h
theorem small_log {b : Int} (b0 : 0 ≤ b) (h : b ≤ 1000) : b.natAbs.log2 < 9000 := by
  have := log_small (m := b.natAbs) (by omega)
  simpa using this
theorem small_bd {b : Int} (b0 : 0 ≤ b) (h : b ≤ 1000) : b.natAbs < 2 ^ 100 := Nat.lt_of_le_of_lt (show b.natAbs ≤ 1000 by omega) (by decide)
theorem ok_l_share (T : Txt K mg) : FnOk P w K mg base CX0 3 T.f_l_share T.d_l_share ["_law_well_here"] spShr := by
  refine T.F_l_share.ok sc_l_share (fun vs H Q E h => ?_) (fun cdv A outer s H vs Q E hr h => ?_)
  · obtain ⟨a, n, rfl, _⟩ := h
    rfl
  · obtain ⟨a, n, rfl, hw', q⟩ := h
    refine ⟨_, (pss_cons (ps_set (i := 1) sc_l_share.nd rfl (.inl rfl) (pe_op op_add pe_int (pe_call (ok_l_draw T) (hr.mono (by decide)) (by rfl) T.g_l_draw T.F_l_draw.kp T.b_l_draw .nil pass0 (pa_cons (pv 0) (pa_cons (pe_call (ok_l_one T) (hr.mono (by decide)) (by rfl) T.g_l_one T.F_l_one.kp T.b_l_one .nil pass0 (pa_cons (pv 0) (pa_cons (pe_lst (pa_cons pe_int (pa_cons pe_int (pa_cons pe_int pa_nil)))) pa_nil))) pa_nil)))))
 (pss_one (ps_ret (pe_call (ok_l_low T) (hr.mono (by decide)) (by rfl) T.g_l_low T.F_l_low.kp T.b_l_low .nil pass0 (pa_cons (pe_call (ok_l_draw T) (hr.mono (by decide)) (by rfl) T.g_l_draw T.F_l_draw.kp T.b_l_draw .nil pass0 (pa_cons (pv 0) (pa_cons (pe_op op_add (pv 1) pe_int) pa_nil))) (pa_cons (pv 1) pa_nil)))))), ?_⟩
    refine ⟨_, rfl, _, rfl, by show 3 ≤ sizeLine; decide, fun p1 n1 => ?_⟩
    obtain ⟨w1, s1⟩ := well_new (o := .lst [.int 3, .int 9, .int 60]) hw' n1
    refine ⟨a, p1, _, n + 2, rfl, w1, sqL_hid hw' n1, by show 0 < 3; decide, by show 3 ≤ 1000; decide, fun i2 x2 H2 hx2 s2 w2 => ?_⟩
    obtain ⟨l, l1, l60, rfl⟩ := three_at hx2
    refine ⟨a, l, n + 1, rfl, w2, by omega, small_log (by omega) (by omega), fun d H3 d0 d1 s3 w3 => ⟨_, _, rfl, rfl, ?_⟩⟩
    refine ⟨_, rfl, _, rfl, _, _, rfl, rfl, a, _, n, rfl, w3, ?_, ?_, fun e H4 e0 e1 s4 w4 => ?_⟩
    · show 0 < 1 + d + 1
      omega
    · exact small_log (by show 0 ≤ 1 + d + 1; omega) (by show 1 + d + 1 ≤ 1000; omega)
    have e1 : e < 1 + d + 1 := e1
    refine ⟨_, rfl, e, 1 + d, rfl, by omega, small_log (by omega) (by omega), fun H5 r s5 h5 => ?_⟩
    obtain ⟨u1, u2⟩ := low_unit e0 (show e ≤ 1 + d by omega) (by omega)
    have w5 := w4.same s5
    obtain ⟨p5, e5, h5⟩ := h5
    exact q _ _ _ u1 u2 (Bd.divInt (n := 100) (by omega) (small_bd e0 (by omega)) (small_bd (by omega) (by omega))) (s1.trans (s2.trans (s3.trans (s4.trans (hid_mono s5))))) w5 ⟨p5, e5, hid_keep w5 h5 (fun _ => nofun)⟩
/-! ### a row -/
theorem alloc {H : Hp} {a p : Addr} {n : Nat} {o : HO} (wl : WellAt H a n) (np : H p = none) : WellAt (upd H p o) a n ∧ Same (hid a H) (hid a (upd H p o)) ∧ hid a (upd H p o) p = some o := by
  obtain ⟨w1, s1⟩ := well_new (o := o) wl np
  exact ⟨w1, s1, by rw [hid_ne (wl.ne np)]; exact upd_same⟩
theorem f_one : (("one" : Str), ([] : List Str)) ∈ forms := by simp [forms]
theorem f_can : (("can" : Str), (["sign"] : List Str)) ∈ forms := by simp [forms]
theorem f_on : (("on" : Str), (["sign", "number"] : List Str)) ∈ forms := by simp [forms]
theorem f_not : (("not" : Str), (["number"] : List Str)) ∈ forms := by simp [forms]
theorem f_less : (("less" : Str), (["number", "share"] : List Str)) ∈ forms := by simp [forms]
theorem f_both : (("both" : Str), (["number", "number"] : List Str)) ∈ forms := by simp [forms]
theorem f_either : (("either" : Str), (["number", "number"] : List Str)) ∈ forms := by simp [forms]
theorem rw0 {S : ShR} {G : Hp} {t : Addr} {z : Str} (h : G t = some (.tup [.str z])) : IsRw S G (.ref t) ⟨z, []⟩ := ⟨t, [], rfl, h, .nil⟩
theorem rw1 {S : ShR} {G : Hp} {t : Addr} {z : Str} {x : V} {a : Arg} (h : G t = some (.tup [.str z, x])) (hx : IsArg S G x a) : IsRw S G (.ref t) ⟨z, [a]⟩ := ⟨t, [x], rfl, h, .cons hx .nil⟩
theorem rw2 {S : ShR} {G : Hp} {t : Addr} {z : Str} {x y : V} {a b : Arg} (h : G t = some (.tup [.str z, x, y])) (hx : IsArg S G x a) (hy : IsArg S G y b) : IsRw S G (.ref t) ⟨z, [a, b]⟩ := ⟨t, [x, y], rfl, h, .cons hx (.cons hy .nil)⟩
theorem ok0 {i : Nat} {z : Str} (h : (z, ([] : List Str)) ∈ forms) : RwOk i ⟨z, []⟩ := ⟨h, fun a ha => by cases ha⟩
theorem ok1 {i : Nat} {z k : Str} {a : Arg} (e : kindA a = k) (h : (z, [k]) ∈ forms) (o : ArgOk i a) : RwOk i ⟨z, [a]⟩ := ⟨by subst e; exact h, fun b hb => by rw [List.mem_singleton.mp hb]; exact o⟩
theorem ok2 {i : Nat} {z k k' : Str} {a a' : Arg} (e : kindA a = k) (e' : kindA a' = k') (h : (z, [k, k']) ∈ forms) (o : ArgOk i a) (o' : ArgOk i a') : RwOk i ⟨z, [a, a']⟩ := by
  refine ⟨by subst e; subst e'; exact h, fun b hb => ?_⟩
  rcases List.mem_cons.mp hb with rfl | hb
  · exact o
  · rw [List.mem_singleton.mp hb]
    exact o'
def spRow : Sp := fun vs H Q _ => ∃ (a ps : Addr) (zs : List Str) (i n : Nat), vs = [.ref a, .ref ps, .int i] ∧ WellAt H a (n + 8) ∧ hid a H ps = some (.lst (zs.map V.str)) ∧ 0 < zs.length ∧ zs.length ≤ 10 ∧ (∀ z ∈ zs, NmOk z) ∧ i ≤ 300 ∧
  ∀ r v H', RwOk i r → Same (hid a H) (hid a H') → WellAt H' a n → IsRw SL (hid a H') v r → Q v H'
set_option maxHeartbeats 800000 in
theorem ok_l_row (T : Txt K mg) : FnOk P w K mg base CX0 4 T.f_l_row T.d_l_row ["_law_well_here", "_law_signs", "_law_at"] spRow := by
  refine T.F_l_row.ok sc_l_row (fun vs H Q E h => ?_) (fun cdv A outer s H vs Q E hr h => ?_)
  · obtain ⟨a, ps, zs, i, n, rfl, _⟩ := h
    rfl
  · obtain ⟨a, ps, zs, i, n, rfl, w0, hps, z0, z10, nz, i3, q⟩ := h
    refine ⟨_, (pss_cons (ps_set (i := 3) sc_l_row.nd rfl (.inl rfl) (pe_call (ok_l_one T) (hr.mono (by decide)) (by rfl) T.g_l_one T.F_l_one.kp T.b_l_one .nil pass0 (pa_cons (pv 0) (pa_cons (pv 1) pa_nil))))
 (pss_cons (ps_if (pt_cmpR op_eq (pv 2) pe_int (nomark _))
  (pss_one (ps_ret (pe_call (ok_l_one T) (hr.mono (by decide)) (by rfl) T.g_l_one T.F_l_one.kp T.b_l_one .nil pass0 (pa_cons (pv 0) (pa_cons (pe_lst (pa_cons (pe_tup (pa_cons pe_str pa_nil)) (pa_cons (pe_tup (pa_cons pe_str (pa_cons (pv 3) pa_nil))) pa_nil))) pa_nil)))))
  pss_nil)
 (pss_cons (ps_set (i := 4) sc_l_row.nd rfl (.inl rfl) (pe_call (ok_l_one T) (hr.mono (by decide)) (by rfl) T.g_l_one T.F_l_one.kp T.b_l_one .nil pass0 (pa_cons (pv 0) (pa_cons (pe_lst (pa_cons (pe_op op_sub (pv 2) pe_int) (pa_cons (pe_call (ok_l_draw T) (hr.mono (by decide)) (by rfl) T.g_l_draw T.F_l_draw.kp T.b_l_draw .nil pass0 (pa_cons (pv 0) (pa_cons (pv 2) pa_nil))) pa_nil))) pa_nil))))
 (pss_cons (ps_set (i := 5) sc_l_row.nd rfl (.inl rfl) (pe_call (ok_l_draw T) (hr.mono (by decide)) (by rfl) T.g_l_draw T.F_l_draw.kp T.b_l_draw .nil pass0 (pa_cons (pv 0) (pa_cons (pv 2) pa_nil))))
 (pss_cons (ps_set (i := 6) sc_l_row.nd rfl (.inl rfl) (pe_lst (pa_cons (pe_tup (pa_cons pe_str pa_nil)) (pa_cons (pe_tup (pa_cons pe_str (pa_cons (pv 3) pa_nil))) (pa_cons (pe_tup (pa_cons pe_str (pa_cons (pv 3) (pa_cons (pv 4) pa_nil)))) (pa_cons (pe_tup (pa_cons pe_str (pa_cons (pv 3) (pa_cons (pv 4) pa_nil)))) (pa_cons (pe_tup (pa_cons pe_str (pa_cons (pv 3) (pa_cons (pv 4) pa_nil)))) (pa_cons (pe_tup (pa_cons pe_str (pa_cons (pv 4) pa_nil))) pa_nil))))))))
 (pss_cons (ps_set (i := 6) sc_l_row.nd rfl (.inl rfl) (pe_op op_cat (pv 6) (pe_lst (pa_cons (pe_tup (pa_cons pe_str (pa_cons (pv 4) pa_nil))) (pa_cons (pe_tup (pa_cons pe_str (pa_cons (pv 4) (pa_cons (pe_call (ok_l_share T) (hr.mono (by decide)) (by rfl) T.g_l_share T.F_l_share.kp T.b_l_share .nil pass0 (pa_cons (pv 0) pa_nil)) pa_nil)))) (pa_cons (pe_tup (pa_cons pe_str (pa_cons (pv 4) (pa_cons (pv 5) pa_nil)))) pa_nil))))))
 (pss_one (ps_ret (pe_call (ok_l_one T) (hr.mono (by decide)) (by rfl) T.g_l_one T.F_l_one.kp T.b_l_one .nil pass0 (pa_cons (pv 0) (pa_cons (pe_op op_cat (pv 6) (pe_lst (pa_cons (pe_tup (pa_cons pe_str (pa_cons (pv 4) (pa_cons (pv 5) pa_nil)))) pa_nil))) pa_nil))))))))))), ?_⟩
    refine ⟨_, rfl, _, rfl, a, ps, _, n + 7, rfl, w0, SqL.of hps, by rw [List.length_map]; exact z0, by rw [List.length_map]; omega, fun j x H1 hx s1 w1 => ?_⟩
    rw [List.getElem?_map] at hx
    obtain ⟨z, hz, rfl⟩ := Option.map_eq_some_iff.mp hx
    have nmz := nz z (List.mem_of_getElem? hz)
    refine ⟨_, rfl, rfl, _, rfl, ite2 (fun h => ?_) (fun h => ?_)⟩
    · have i0 : i = 0 := by
        have := V.int.inj (of_decide_eq_true h)
        omega
      subst i0
      refine ⟨_, rfl, by show 1 ≤ sizeLine; decide, fun t1 n1 => ?_⟩
      obtain ⟨w2, s2, f1⟩ := alloc (o := .tup [.str "one"]) w1 n1
      refine ⟨_, rfl, by show 2 ≤ sizeLine; decide, fun t2 n2 => ?_⟩
      obtain ⟨w3, s3, f2⟩ := alloc (o := .tup [.str "can", .str z]) w2 n2
      refine ⟨by show 2 ≤ sizeLine; decide, fun p np => ?_⟩
      obtain ⟨w4, s4, f3⟩ := alloc (o := .lst [.ref t1, .ref t2]) w3 np
      refine ⟨a, p, _, n + 6, rfl, w4, sqL_hid w3 np, by show 0 < 2; decide, by show 2 ≤ 1000; decide, fun j2 x2 H5 hx2 s5 w5 => ?_⟩
      have hm : x2 = .ref t1 ∨ x2 = .ref t2 := by simpa using List.mem_of_getElem? hx2
      have sA := s1.trans (s2.trans (s3.trans (s4.trans s5)))
      rcases hm with rfl | rfl
      · exact q ⟨"one", []⟩ _ _ (ok0 f_one) sA (w5.mono (by omega)) (rw0 (s5 _ _ (s4 _ _ (s3 _ _ f1))))
      · exact q ⟨"can", [.sg z]⟩ _ _ (ok1 rfl f_can nmz) sA (w5.mono (by omega)) (rw1 (s5 _ _ (s4 _ _ f2)) rfl)
    · have i0 : 0 < i := by
        rcases Nat.eq_zero_or_pos i with z | z
        · exfalso
          apply h
          rw [z]
          exact decide_eq_true rfl
        · exact z
      refine ⟨_, rfl, _, rfl, _, _, rfl, rfl, _, rfl, _, rfl, a, i, n + 6, rfl, w1, by omega, small_log (by omega) (by omega), fun d H2 d0 d1 s2 w2 => ?_⟩
      refine ⟨by show 2 ≤ sizeLine; decide, fun p2 np2 => ?_⟩
      obtain ⟨w3, s3, _⟩ := alloc (o := .lst [.int ((i : Int) - 1), .int d]) w2 np2
      refine ⟨a, p2, _, n + 5, rfl, w3, sqL_hid w2 np2, by show 0 < 2; decide, by show 2 ≤ 1000; decide, fun j4 x4 H4 hx4 s4 w4 => ?_⟩
      obtain ⟨k, rfl, ki⟩ : ∃ k : Nat, x4 = .int (k : Int) ∧ k < i := by
        have hm : x4 = .int ((i : Int) - 1) ∨ x4 = .int d := by simpa using List.mem_of_getElem? hx4
        rcases hm with rfl | rfl
        · exact ⟨i - 1, congrArg V.int (by omega), by omega⟩
        · exact ⟨d.toNat, congrArg V.int (by omega), by omega⟩
      refine ⟨_, rfl, _, rfl, a, i, n + 4, rfl, w4, by omega, small_log (by omega) (by omega), fun d' H5 d0' d1' s5 w5 => ?_⟩
      obtain ⟨e, he, ei⟩ : ∃ e : Nat, d' = (e : Int) ∧ e < i := ⟨d'.toNat, by omega, by omega⟩
      subst he
      have sA := s1.trans (s2.trans (s3.trans (s4.trans s5)))
      clear s1 s2 s3 s4 s5 w1 w2 w3 w4 h d0 d1 d0' d1' hx4
      -- the ten rows
      refine ⟨by show 1 ≤ sizeLine; decide, fun t1 n1 => ?_⟩
      obtain ⟨w6, s6, f1⟩ := alloc (o := .tup [.str "one"]) w5 n1
      refine ⟨_, rfl, by show 2 ≤ sizeLine; decide, fun t2 n2 => ?_⟩
      obtain ⟨w7, s7, f2⟩ := alloc (o := .tup [.str "can", .str z]) w6 n2
      refine ⟨_, rfl, _, rfl, by show 3 ≤ sizeLine; decide, fun t3 n3 => ?_⟩
      obtain ⟨w8, s8, f3⟩ := alloc (o := .tup [.str "on", .str z, .int (k : Int)]) w7 n3
      refine ⟨_, rfl, _, rfl, by show 3 ≤ sizeLine; decide, fun t4 n4 => ?_⟩
      obtain ⟨w9, s9, f4⟩ := alloc (o := .tup [.str "on", .str z, .int (k : Int)]) w8 n4
      refine ⟨_, rfl, _, rfl, by show 3 ≤ sizeLine; decide, fun t5 n5 => ?_⟩
      obtain ⟨w10, s10, f5⟩ := alloc (o := .tup [.str "on", .str z, .int (k : Int)]) w9 n5
      refine ⟨_, rfl, by show 2 ≤ sizeLine; decide, fun t6 n6 => ?_⟩
      obtain ⟨w11, s11, f6⟩ := alloc (o := .tup [.str "not", .int (k : Int)]) w10 n6
      refine ⟨by show 6 ≤ sizeLine; decide, fun p1 np1 => ?_⟩
      obtain ⟨w12, s12, g1⟩ := alloc (o := .lst [.ref t1, .ref t2, .ref t3, .ref t4, .ref t5, .ref t6]) w11 np1
      refine ⟨_, rfl, _, rfl, by show 2 ≤ sizeLine; decide, fun t7 n7 => ?_⟩
      obtain ⟨w13, s13, f7⟩ := alloc (o := .tup [.str "not", .int (k : Int)]) w12 n7
      refine ⟨_, rfl, _, rfl, a, n + 1, rfl, w13, fun qq vq H14 u1 u2 ub s14 w14 hq => ?_⟩
      refine ⟨by show 3 ≤ sizeLine; decide, fun t8 n8 => ?_⟩
      obtain ⟨w15, s15, f8⟩ := alloc (o := .tup [.str "less", .int (k : Int), vq]) w14 n8
      refine ⟨_, rfl, _, rfl, by show 3 ≤ sizeLine; decide, fun t9 n9 => ?_⟩
      obtain ⟨w16, s16, f9⟩ := alloc (o := .tup [.str "both", .int (k : Int), .int (e : Int)]) w15 n9
      refine ⟨by show 3 ≤ sizeLine; decide, fun p3 np3 => ?_⟩
      obtain ⟨w17, s17, g3⟩ := alloc (o := .lst [.ref t7, .ref t8, .ref t9]) w16 np3
      have g1' := hid_same _ _ (s17 _ _ (s16 _ _ (s15 _ _ (s14 _ _ (s13 _ _ g1)))))
      refine ⟨p1, p3, _, _, rfl, rfl, g1', hid_same _ _ g3, Nat.le_of_lt (small1000 (by show 6 + 3 ≤ 1000; decide)), fun p4 np4 => ?_⟩
      obtain ⟨w18, s18, g4⟩ := alloc (o := .lst [.ref t1, .ref t2, .ref t3, .ref t4, .ref t5, .ref t6, .ref t7, .ref t8, .ref t9]) w17 np4
      refine ⟨_, rfl, _, rfl, _, rfl, _, rfl, by show 3 ≤ sizeLine; decide, fun t10 n10 => ?_⟩
      obtain ⟨w19, s19, f10⟩ := alloc (o := .tup [.str "either", .int (k : Int), .int (e : Int)]) w18 n10
      refine ⟨by show 1 ≤ sizeLine; decide, fun p5 np5 => ?_⟩
      obtain ⟨w20, s20, g5⟩ := alloc (o := .lst [.ref t10]) w19 np5
      refine ⟨p4, p5, _, _, rfl, rfl, hid_same _ _ (s20 _ _ (s19 _ _ g4)), hid_same _ _ g5, Nat.le_of_lt (small1000 (by show 9 + 1 ≤ 1000; decide)), fun p6 np6 => ?_⟩
      obtain ⟨w21, s21, g6⟩ := alloc (o := .lst [.ref t1, .ref t2, .ref t3, .ref t4, .ref t5, .ref t6, .ref t7, .ref t8, .ref t9, .ref t10]) w20 np6
      refine ⟨a, p6, [.ref t1, .ref t2, .ref t3, .ref t4, .ref t5, .ref t6, .ref t7, .ref t8, .ref t9, .ref t10], n, rfl, w21, SqL.of g6, by show 0 < 10; decide, by show 10 ≤ 1000; decide, fun j7 x7 H22 hx7 s22 w22 => ?_⟩
      have c20 := s20.trans (s21.trans s22)
      have c17 := s17.trans (s18.trans (s19.trans c20))
      have c15 := s15.trans (s16.trans c17)
      have c13 := s13.trans (s14.trans c15)
      have c12 := s12.trans c13
      have fin := sA.trans (s6.trans (s7.trans (s8.trans (s9.trans (s10.trans (s11.trans c12))))))
      have hm : x7 = .ref t1 ∨ x7 = .ref t2 ∨ x7 = .ref t3 ∨ x7 = .ref t4 ∨ x7 = .ref t5 ∨ x7 = .ref t6 ∨ x7 = .ref t7 ∨ x7 = .ref t8 ∨ x7 = .ref t9 ∨ x7 = .ref t10 := by simpa using List.mem_of_getElem? hx7
      rcases hm with rfl | rfl | rfl | rfl | rfl | rfl | rfl | rfl | rfl | rfl
      · exact q ⟨"one", []⟩ _ _ (ok0 f_one) fin w22 (rw0 ((s7.trans (s8.trans (s9.trans (s10.trans (s11.trans c12))))) _ _ f1))
      · exact q ⟨"can", [.sg z]⟩ _ _ (ok1 rfl f_can nmz) fin w22 (rw1 ((s8.trans (s9.trans (s10.trans (s11.trans c12)))) _ _ f2) rfl)
      · exact q ⟨"on", [.sg z, .nu k]⟩ _ _ (ok2 rfl rfl f_on nmz ki) fin w22 (rw2 ((s9.trans (s10.trans (s11.trans c12))) _ _ f3) rfl rfl)
      · exact q ⟨"on", [.sg z, .nu k]⟩ _ _ (ok2 rfl rfl f_on nmz ki) fin w22 (rw2 ((s10.trans (s11.trans c12)) _ _ f4) rfl rfl)
      · exact q ⟨"on", [.sg z, .nu k]⟩ _ _ (ok2 rfl rfl f_on nmz ki) fin w22 (rw2 ((s11.trans c12) _ _ f5) rfl rfl)
      · exact q ⟨"not", [.nu k]⟩ _ _ (ok1 rfl f_not ki) fin w22 (rw1 (c12 _ _ f6) rfl)
      · exact q ⟨"not", [.nu k]⟩ _ _ (ok1 rfl f_not ki) fin w22 (rw1 ((s14.trans c15) _ _ f7) rfl)
      · exact q ⟨"less", [.nu k, .sh qq]⟩ _ _ (ok2 rfl rfl f_less ki ⟨u1, u2, ub⟩) fin w22 (rw2 ((s16.trans c17) _ _ f8) rfl (IsTup2.mono hq c15))
      · exact q ⟨"both", [.nu k, .nu e]⟩ _ _ (ok2 rfl rfl f_both ki ei) fin w22 (rw2 (c17 _ _ f9) rfl rfl)
      · exact q ⟨"either", [.nu k, .nu e]⟩ _ _ (ok2 rfl rfl f_either ki ei) fin w22 (rw2 (c20 _ _ f10) rfl rfl)
end

end Fb

namespace Fb
open PySem PySem.Spec PyProof.Rows L2
section
variable {P : Program} {w : World} {K : PySem.W.Frag} {mg : Str → Option Value} {base : Heap}
/-! ### the seven forms -/
inductive Shape : Rw → Prop
  | one : Shape ⟨"one", []⟩
  | can (z : Str) : Shape ⟨"can", [.sg z]⟩
  | on (z : Str) (n : Nat) : Shape ⟨"on", [.sg z, .nu n]⟩
  | no (n : Nat) : Shape ⟨"not", [.nu n]⟩
  | less (n : Nat) (q : Rat) : Shape ⟨"less", [.nu n, .sh q]⟩
  | both (n m : Nat) : Shape ⟨"both", [.nu n, .nu m]⟩
  | either (n m : Nat) : Shape ⟨"either", [.nu n, .nu m]⟩
theorem kind_sg {a : Arg} (h : kindA a = "sign") : ∃ z, a = .sg z := by
  cases a with
  | sg z => exact ⟨z, rfl⟩
  | nu n => exact absurd (show ("number" : Str) = "sign" from h) (by decide +kernel)
  | sh q => exact absurd (show ("share" : Str) = "sign" from h) (by decide +kernel)
theorem kind_nu {a : Arg} (h : kindA a = "number") : ∃ n, a = .nu n := by
  cases a with
  | sg z => exact absurd (show ("sign" : Str) = "number" from h) (by decide +kernel)
  | nu n => exact ⟨n, rfl⟩
  | sh q => exact absurd (show ("share" : Str) = "number" from h) (by decide +kernel)
theorem kind_sh {a : Arg} (h : kindA a = "share") : ∃ q, a = .sh q := by
  cases a with
  | sg z => exact absurd (show ("sign" : Str) = "share" from h) (by decide +kernel)
  | nu n => exact absurd (show ("number" : Str) = "share" from h) (by decide +kernel)
  | sh q => exact ⟨q, rfl⟩
theorem map0 {l : List Arg} (h : l.map kindA = []) : l = [] := List.map_eq_nil_iff.mp h
theorem map1 {l : List Arg} {k : Str} (h : l.map kindA = [k]) : ∃ a, l = [a] ∧ kindA a = k := by
  match l, h with
  | [a], h => exact ⟨a, rfl, List.head_eq_of_cons_eq h⟩
theorem map2 {l : List Arg} {k k' : Str} (h : l.map kindA = [k, k']) : ∃ a b, l = [a, b] ∧ kindA a = k ∧ kindA b = k' := by
  match l, h with
  | [a, b], h => exact ⟨a, b, rfl, List.head_eq_of_cons_eq h, List.head_eq_of_cons_eq (List.tail_eq_of_cons_eq h)⟩
theorem RwOk.shape {i : Nat} {r : Rw} (h : RwOk i r) : Shape r := by
  obtain ⟨z, as⟩ := r
  have f : (z, as.map kindA) ∈ forms := h.form
  generalize hk : as.map kindA = ks at f
  simp only [forms, List.mem_cons, Prod.mk.injEq, List.not_mem_nil, or_false] at f
  rcases f with ⟨rfl, rfl⟩ | ⟨rfl, rfl⟩ | ⟨rfl, rfl⟩ | ⟨rfl, rfl⟩ | ⟨rfl, rfl⟩ | ⟨rfl, rfl⟩ | ⟨rfl, rfl⟩
  · rw [map0 hk]
    exact .one
  · obtain ⟨a, rfl, e⟩ := map1 hk
    obtain ⟨z, rfl⟩ := kind_sg e
    exact .can z
  · obtain ⟨a, b, rfl, e, e'⟩ := map2 hk
    obtain ⟨z, rfl⟩ := kind_sg e
    obtain ⟨n, rfl⟩ := kind_nu e'
    exact .on z n
  · obtain ⟨a, rfl, e⟩ := map1 hk
    obtain ⟨n, rfl⟩ := kind_nu e
    exact .no n
  · obtain ⟨a, b, rfl, e, e'⟩ := map2 hk
    obtain ⟨n, rfl⟩ := kind_nu e
    obtain ⟨q, rfl⟩ := kind_sh e'
    exact .less n q
  · obtain ⟨a, b, rfl, e, e'⟩ := map2 hk
    obtain ⟨n, rfl⟩ := kind_nu e
    obtain ⟨m, rfl⟩ := kind_nu e'
    exact .both n m
  · obtain ⟨a, b, rfl, e, e'⟩ := map2 hk
    obtain ⟨n, rfl⟩ := kind_nu e
    obtain ⟨m, rfl⟩ := kind_nu e'
    exact .either n m
theorem BkOk.snoc {rs : List Rw} {r : Rw} (h : BkOk rs) (o : RwOk rs.length r) : BkOk (rs ++ [r]) := fun i r' e => by
  by_cases hi : i < rs.length
  · rw [List.getElem?_append_left hi] at e
    exact h i r' e
  · rw [List.getElem?_append_right (by omega)] at e
    have : i - rs.length = 0 := by
      have := (List.getElem?_eq_some_iff.mp e).1
      simp at this
      omega
    rw [this] at e
    cases e
    have : i = rs.length := by omega
    rw [this]
    exact o
theorem BkOk.take {rs : List Rw} (h : BkOk rs) (k : Nat) : BkOk (rs.take k) := fun i r e => by
  rw [List.getElem?_take] at e
  split at e
  · exact h i r e
  · cases e
/-! ### rows -/
def spRows : Sp := fun vs H Q _ => ∃ (a ps : Addr) (zs : List Str) (mx n : Nat), vs = [.ref a, .ref ps, .int mx] ∧ 1 ≤ mx ∧ mx ≤ 14 ∧ WellAt H a (n + 113) ∧ hid a H ps = some (.lst (zs.map V.str)) ∧ 0 < zs.length ∧ zs.length ≤ 10 ∧ (∀ z ∈ zs, NmOk z) ∧
  ∀ H' p xs rs, BkOk rs → rs ≠ [] → rs.length ≤ mx → Same (hid a H) (hid a H') → WellAt H' a n → hid a H' p = some (.lst xs) → AllAre (IsRw SL (hid a H')) xs rs → Q (.ref p) H'
theorem ok_l_rows (T : Txt K mg) : FnOk P w K mg base CX0 5 T.f_l_rows T.d_l_rows ["_law_well_here", "_law_signs", "_law_most"] spRows := by
  refine T.F_l_rows.ok sc_l_rows (fun vs H Q E h => ?_) (fun cdv A outer s H vs Q E hr h => ?_)
  · obtain ⟨a, ps, zs, mx, n, rfl, _⟩ := h
    rfl
  · obtain ⟨a, ps, zs, mx, n, rfl, mx1, mx14, w0, hps, z0, z10, nz, q⟩ := h
    refine ⟨_, (pss_cons (ps_set (i := 3) sc_l_rows.nd rfl (.inl rfl) (pe_lst pa_nil))
 (pss_cons (ps_for PassesOwn.never rfl (pi_range1 (by rfl) T.z_range (pa_cons (pe_op op_add pe_int (pe_call (ok_l_draw T) (hr.mono (by decide)) (by rfl) T.g_l_draw T.F_l_draw.kp T.b_l_draw .nil pass0 (pa_cons (pv 0) (pa_cons (pv 2) pa_nil)))) pa_nil)) (pg_name (i := 4) sc_l_rows.nd rfl (.inl rfl))
  (pss_one (ps_expr (pe_bm PySem.F.plainAttrs_list PySem.F.slot_list_append PySem.F.type_list_append mt_append (pv 3) (pa_cons (pe_call (ok_l_row T) (hr.mono (by decide)) (by rfl) T.g_l_row T.F_l_row.kp T.b_l_row .nil pass0 (pa_cons (pv 0) (pa_cons (pv 1) (pa_cons (pv 4) pa_nil)))) pa_nil)))))
 (pss_one (ps_ret (pv 3))))), ?_⟩
    refine ⟨Nat.zero_le _, fun pf nf => ?_⟩
    obtain ⟨w1, s1, f1⟩ := alloc (o := .lst []) w0 nf
    have pfa : pf ≠ a := w0.ne nf
    refine ⟨_, rfl, _, rfl, a, mx, n + 112, rfl, w1, by omega, log_small (by omega), fun d H2 d0 d1 s2 w2 => ⟨_, _, rfl, rfl, ?_⟩⟩
    obtain ⟨k, hk, k1, kmx⟩ : ∃ k : Nat, 1 + d = (k : Int) ∧ 1 ≤ k ∧ k ≤ mx := ⟨(1 + d).toNat, by omega, by omega, by omega⟩
    dsimp only
    rw [hk]
    have nfh : hid a H pf = none := by rw [hid_ne pfa]; exact nf
    refine ⟨k, rfl, by omega, by omega, ?_⟩
    refine for_range (lo := 0) (n := (k : Int).toNat) (tb := _) (D := { nx := tRet (tVar 3) { nx := fun _ H' => Q .non H', rt := Q }, rt := Q }) (fun j σ H' => ∃ (y : Option V) (xs : List V) (rs : List Rw), σ = [some (.ref a), some (.ref ps), some (.int mx), some (.ref pf), y] ∧ Same (hid a H) (hid a H') ∧ WellAt H' a (n + 8 * (14 - j)) ∧ hid a H' pf = some (.lst xs) ∧ AllAre (IsRw SL (hid a H')) xs rs ∧ BkOk rs ∧ rs.length = j) ⟨none, [], [], rfl, s1.trans s2, w2.mono (by omega), s2 _ _ f1, .nil, (fun i r e => by cases e), rfl⟩ (fun j σ H3 hj h => ?_) (fun σ H3 h => ?_)
    · obtain ⟨y, xs, rs, rfl, s3, w3, e3, a3, bk, lr⟩ := h
      rw [Int.toNat_natCast] at hj
      have e3' : H3 pf = some (.lst xs) := hid_same _ _ e3
      refine ⟨_, rfl, .inl ⟨rfl, _, SqL.of e3'⟩, _, rfl, _, rfl, _, rfl, a, ps, zs, j, n + 8 * (14 - (j + 1)), ?_, w3.mono (by omega), s3 _ _ hps, z0, z10, nz, by omega, fun r v H4 rok s4 w4 hv => ?_⟩
      · rw [Int.zero_add]
        rfl
      have e4 : hid a H4 pf = some (.lst xs) := s4 _ _ e3
      have e4' : H4 pf = some (.lst xs) := hid_same _ _ e4
      refine ⟨pf, _, _, rfl, rfl, e4', ?_, ?_⟩
      · have := a3.1
        exact small1000 (by omega)
      have ts : ∀ {x : V} {r : Rw}, IsRw SL (hid a H4) x r → IsRw SL (hid a (upd H4 pf (.lst (xs ++ [v])))) x r := fun {x r} h => by
        obtain ⟨t, vs, e, ht, av⟩ := h
        have ne : t ≠ pf := fun z => by
          rw [z, e4] at ht
          cases ht
        refine ⟨t, vs, e, by rw [hid_updN pfa, upd_ne ne]; exact ht, av.imp fun v' a' h' => ?_⟩
        cases a' with
        | sg z => exact h'
        | nu n => exact h'
        | sh qq =>
          obtain ⟨p', e', h'⟩ := h'
          have ne' : p' ≠ pf := fun z => by
            rw [z, e4] at h'
            cases h'
          exact ⟨p', e', by rw [hid_updN pfa, upd_ne ne']; exact h'⟩
      refine ⟨_, xs ++ [v], rs ++ [r], rfl, ?_, ?_, ?_, ?_, bk.snoc (by rw [lr]; exact rok), by rw [List.length_append, lr]; rfl⟩
      · rw [hid_updN pfa]
        exact same_over (s3.trans s4) nfh
      · obtain ⟨w0', w1', w2', ew, rest⟩ := w4
        exact ⟨w0', w1', w2', by rw [upd_ne pfa.symm]; exact ew, rest⟩
      · rw [hid_updN pfa]
        exact upd_same
      · exact AllAre.snoc (a3.imp fun _ _ h => ts (h.mono SL.m s4)) (ts hv)
    · obtain ⟨y, xs, rs, rfl, s3, w3, e3, a3, bk, lr⟩ := h
      rw [Int.toNat_natCast] at lr
      refine ⟨_, rfl, q H3 pf xs rs bk (fun z => ?_) (by omega) s3 (w3.mono (by omega)) e3 a3⟩
      rw [z] at lr
      simp at lr
      omega
/-! ### the book of rows -/
theorem plain_rw {C : Addr} {H : Hp} {v : V} {r : Rw} (h : IsRw SL H v r) (no : ∀ q, Arg.sh q ∉ r.args) : IsRw (SB C) H v r := by
  obtain ⟨t, vs, e, ht, av⟩ := h
  refine ⟨t, vs, e, ht, .of_ix av.1 fun i y hy => ?_⟩
  obtain ⟨a, ha, h⟩ := av.at hy
  refine ⟨a, ha, ?_⟩
  cases a with
  | sg z => exact h
  | nu n => exact h
  | sh q => exact absurd (List.mem_of_getElem? ha) (no q)
def spBook (C : Addr) : Sp := fun vs H Q _ => ∃ (p : Addr) (xs : List V) (rs : List Rw), vs = [.ref p] ∧ H p = some (.lst xs) ∧ AllAre (IsRw SL H) xs rs ∧ BkOk rs ∧ rs.length ≤ 300 ∧ ∀ H' b ys, Same H H' → H' b = some (.lst ys) → AllAre (IsRw (SB C) H') ys rs → Q (.ref b) H'
theorem ok_l_book (T : Txt K mg) : FnOk P w K mg base CX0 4 T.f_l_book T.d_l_book ["_law_rows_here"] (spBook T.c_Share) := by
  refine T.F_l_book.ok sc_l_book (fun vs H Q E h => ?_) (fun cdv A outer s H vs Q E hr h => ?_)
  · obtain ⟨p, xs, rs, rfl, _⟩ := h
    rfl
  · obtain ⟨p, xs, rs, rfl, hp, av, ok, l3, q⟩ := h
    refine ⟨_, (pss_cons (ps_set (i := 1) sc_l_book.nd rfl (.inl rfl) (pe_lst pa_nil))
 (pss_cons (ps_for PassesOwn.never rfl (pi_list (pv 0)) (pg_name (i := 2) sc_l_book.nd rfl (.inl rfl))
  (pss_cons (ps_if (pt_cmpR op_eq (pe_ix ix_tup (pv 2) pe_int (fun _ _ => rfl)) pe_str (nomark _))
  (pss_one (ps_set (i := 2) sc_l_book.nd rfl (.inl rfl) (pe_op op_catT (pe_slice sl_tup (pv 2) po_none (po_some pe_int)) (pe_tup (pa_cons (pe_make T.M_Share (ok_m_Share_init T) (hr.mono (by decide)) (by rfl) T.g_Share T.b_m_Share_init .nil pass0 (pa_cons (pe_ix ix_tup (pe_ix ix_tup (pv 2) pe_int (fun _ _ => rfl)) pe_int (fun _ _ => rfl)) (pa_cons (pe_ix ix_tup (pe_ix ix_tup (pv 2) pe_int (fun _ _ => rfl)) pe_int (fun _ _ => rfl)) pa_nil))) pa_nil)))))
  pss_nil)
 (pss_one (ps_expr (pe_bm PySem.F.plainAttrs_list PySem.F.slot_list_append PySem.F.type_list_append mt_append (pv 1) (pa_cons (pv 2) pa_nil))))))
 (pss_one (ps_ret (pv 1))))), ?_⟩
    refine ⟨Nat.zero_le _, fun pf nf => ?_⟩
    have s0 := same_upd (o := .lst []) nf
    refine ⟨_, rfl, p, rfl, ⟨_, SqL.of (s0 _ _ hp)⟩, for_list (K := K) (a := p) (xs := xs) (fun i σ H' => ∃ (y : Option V) (ys : List V), σ = [some (.ref p), some (.ref pf), y] ∧ Same H H' ∧ H' pf = some (.lst ys) ∧ AllAre (IsRw (SB T.c_Share) H') ys (rs.take i)) ⟨_, [], rfl, s0, upd_same, by rw [List.take_zero]; exact .nil⟩ (fun i σ H' _ h => ?_) (fun i x σ H1 hx h => ?_) (fun σ H' h => ?_)⟩
    · obtain ⟨_, _, _, s', _⟩ := h
      exact SqL.of (s' _ _ hp)
    · obtain ⟨y, ys, rfl, s1, e1, a1⟩ := h
      obtain ⟨r, hr', hx'⟩ := av.at hx
      have rok := ok i r hr'
      have hi : i < rs.length := (List.getElem?_eq_some_iff.mp hr').1
      have hx1 := hx'.mono SL.m s1
      have ly : ys.length = i := by rw [a1.1, List.length_take]; omega
      have et : rs.take (i + 1) = rs.take i ++ [r] := by rw [List.take_add_one, hr']; rfl
      -- the end of a turn
      have fin : ∀ (v : V) (H2 : Hp), Same H1 H2 → IsRw (SB T.c_Share) H2 v r → ∃ (y : Option V) (ys' : List V), [some (.ref p), some (.ref pf), some v] = [some (.ref p), some (.ref pf), y] ∧ Same H (upd H2 pf (.lst (ys ++ [v]))) ∧ (upd H2 pf (.lst (ys ++ [v]))) pf = some (.lst ys') ∧ AllAre (IsRw (SB T.c_Share) (upd H2 pf (.lst (ys ++ [v])))) ys' (rs.take (i + 1)) := fun v H2 s2 hv => by
        have e2 := s2 _ _ e1
        have ts : ∀ {x : V} {r : Rw}, IsRw (SB T.c_Share) H2 x r → IsRw (SB T.c_Share) (upd H2 pf (.lst (ys ++ [v]))) x r := fun {x r} h => by
          obtain ⟨t, vs, e, ht, av⟩ := h
          have ne : t ≠ pf := fun z => by
            rw [z, e2] at ht
            cases ht
          refine ⟨t, vs, e, by rw [upd_ne ne]; exact ht, av.imp fun v' a' h' => ?_⟩
          cases a' with
          | sg z => exact h'
          | nu n => exact h'
          | sh qq =>
            obtain ⟨p', dx', e', h'⟩ := h'
            have ne' : p' ≠ pf := fun z => by
              rw [z, e2] at h'
              cases h'
            exact ⟨p', dx', e', by rw [upd_ne ne']; exact h'⟩
        refine ⟨_, ys ++ [v], rfl, same_over (s1.trans s2) nf, upd_same, ?_⟩
        rw [et]
        exact AllAre.snoc (a1.imp fun _ _ h => ts (h.mono (SB.m _) s2)) (ts hv)
      have app : ∀ (v : V) (H2 : Hp), Same H1 H2 → H2 pf = some (.lst ys) ∧ ys.length < sizeLine := fun v H2 s2 => ⟨s2 _ _ e1, by rw [ly]; exact small1000 (by omega)⟩
      obtain ⟨t, vs, rfl, ht, aa⟩ := id hx1
      have sq : SqT K H1 t (.str r.word :: vs) := .inl (.inl ht)
      refine ⟨_, rfl, t, _, _, _, rfl, rfl, sq, atI_nat (j := 0) rfl, rfl, _, rfl, ?_⟩
      by_cases hl : r.word = "less"
      · rw [decide_eq_true (show V.str r.word = V.str "less" by rw [hl])]
        refine iteT ?_
        obtain ⟨n, qq, rfl⟩ : ∃ n qq, r = ⟨"less", [.nu n, .sh qq]⟩ := by
          cases rok.shape with
          | less n qq => exact ⟨n, qq, rfl⟩
          | one => exact absurd (show ("one" : Str) = "less" from hl) (by decide +kernel)
          | can z => exact absurd (show ("can" : Str) = "less" from hl) (by decide +kernel)
          | on z n => exact absurd (show ("on" : Str) = "less" from hl) (by decide +kernel)
          | no n => exact absurd (show ("not" : Str) = "less" from hl) (by decide +kernel)
          | both n m => exact absurd (show ("both" : Str) = "less" from hl) (by decide +kernel)
          | either n m => exact absurd (show ("either" : Str) = "less" from hl) (by decide +kernel)
        obtain ⟨v1, rest, rfl, h1, hrest⟩ : ∃ v1 rest, vs = v1 :: rest ∧ IsArg SL H1 v1 (.nu n) ∧ AllAre (IsArg SL H1) rest [.sh qq] := by
          cases vs with
          | nil => exact absurd aa.1 (by simp)
          | cons v1 rest => exact ⟨v1, rest, rfl, aa.2 0 v1 _ rfl rfl, by simpa using aa.1, fun i a b h1 h2 => aa.2 (i + 1) a b (by simpa using h1) (by simpa using h2)⟩
        obtain ⟨v2, rfl, h2⟩ : ∃ v2, rest = [v2] ∧ IsArg SL H1 v2 (.sh qq) := by
          cases rest with
          | nil => exact absurd hrest.1 (by simp)
          | cons v2 rest =>
            cases rest with
            | nil => exact ⟨v2, rfl, hrest.2 0 v2 _ rfl rfl⟩
            | cons _ _ => exact absurd hrest.1 (by simp)
        obtain rfl : v1 = .int (n : Int) := h1
        obtain ⟨p2, rfl, h2⟩ : IsTup2 H1 v2 qq.num (qq.den : Int) := h2
        obtain ⟨u1, u2, ub⟩ : ArgOk i (.sh qq) := rok.args _ (by simp)
        refine ⟨_, rfl, 2, rfl, t, _, rfl, sq, ?_, fun c nc => ?_⟩
        · exact fun h => absurd h.2 (by show ¬ (2 = 3); decide)
        have ec : cutV [V.str "less", V.int (n : Int), V.ref p2] none (some 2) = [V.str "less", V.int (n : Int)] := rfl
        rw [ec]
        have sc := same_upd (o := .tup [V.str "less", V.int (n : Int)]) nc
        have fc : (upd H1 c (.tup [V.str "less", V.int (n : Int)])) c = some (.tup [V.str "less", V.int (n : Int)]) := upd_same
        have ht2 := sc _ _ ht
        have h22 := sc _ _ h2
        generalize upd H1 c (.tup [V.str "less", V.int (n : Int)]) = H2 at *
        have sq2 : SqT K H2 t [.str "less", .int (n : Int), .ref p2] := .inl (.inl ht2)
        have sq3 : SqT K H2 p2 [.int qq.num, .int (qq.den : Int)] := .inl (.inl h22)
        refine ⟨_, rfl, t, _, _, _, rfl, rfl, sq2, atI_nat (j := 2) rfl, p2, _, _, _, rfl, rfl, sq3, atI_nat (j := 0) rfl, _, rfl, t, _, _, _, rfl, rfl, sq2, atI_nat (j := 2) rfl, p2, _, _, _, rfl, rfl, sq3, atI_nat (j := 1) rfl, ?_⟩
        refine mk_share (den_ne qq) (log_of (by decide) (den_abs ub) (by decide)) fun H3 r3 s3 h3 => ?_
        rw [divInt_self] at h3
        refine ⟨by show 1 ≤ sizeLine; decide, fun c2 nc2 => ?_⟩
        have sc2 := same_upd (o := .tup [V.ref r3]) nc2
        refine ⟨c, c2, _, _, rfl, rfl, .inl (.inl (sc2 _ _ (s3 _ _ fc))), .inl (.inl upd_same), by simp, Nat.le_of_lt (small1000 (by show 2 + 1 ≤ 1000; decide)), (fun z => by cases z), fun _ c3 nc3 => ?_⟩
        have sc3 := same_upd (o := .tup ([V.str "less", V.int (n : Int)] ++ [V.ref r3])) nc3
        have s13 := sc.trans (s3.trans (sc2.trans sc3))
        obtain ⟨ea, eb⟩ := app (.ref c3) _ s13
        refine ⟨_, rfl, .inl ⟨rfl, _, SqL.of ea⟩, _, rfl, pf, _, _, rfl, rfl, ea, eb, ?_⟩
        exact fin (.ref c3) _ s13 (rw2 (t := c3) (x := .int (n : Int)) (y := .ref r3) upd_same rfl ((h3.mono sc2).mono sc3))
      · rw [str_ne hl]
        refine iteF ?_
        obtain ⟨ea, eb⟩ := app (.ref t) _ (Same.refl H1)
        refine ⟨_, rfl, .inl ⟨rfl, _, SqL.of ea⟩, _, rfl, pf, _, _, rfl, rfl, ea, eb, ?_⟩
        refine fin (.ref t) H1 (Same.refl _) (plain_rw hx1 fun qq hq => ?_)
        cases rok.shape with
        | less n qq => exact hl rfl
        | one => cases hq
        | can z => simp at hq
        | on z n => simp at hq
        | no n => simp at hq
        | both n m => simp at hq
        | either n m => simp at hq
    · obtain ⟨y, ys, rfl, s1, e1, a1⟩ := h
      rw [av.1, List.take_length] at a1
      exact ⟨_, rfl, q H' pf ys s1 e1 a1⟩
end

end Fb

namespace Fb
open PySem PySem.Spec PyProof.Rows L2
section
variable {P : Program} {w : World} {K : PySem.W.Frag} {mg : Str → Option Value} {base : Heap}
/-! ### what words are told by -/
def spFade (C : Addr) : Sp := fun vs H Q _ => ∃ (v : V) (x : Rat), vs = [v] ∧ IsShare C H v x ∧ 0 < x ∧ x < 1 ∧ Q .non H
theorem ok_p_check_fade (T : Txt K mg) : FnOk P w K mg base CX0 2 T.f_p_check_fade T.d_p_check_fade ["thing"] (spFade T.c_Share) := by
  refine T.F_p_check_fade.ok sc_p_check_fade (fun vs H Q E h => ?_) (fun cdv A outer s H vs Q E hr h => ?_)
  · obtain ⟨v, x, rfl, _⟩ := h
    rfl
  · obtain ⟨v, x, rfl, hx, x0, x1, q⟩ := h
    refine ⟨_, PSs.nox (pss_one (ps_if (PW.pt (pw_or (pt_not (pt_val (pe_callB call_isi (by rfl) T.z_isinstance (by decide +kernel) (pa_cons (pv 0) (pa_cons (pe_glob (v := .ref T.c_Share) (by rfl) T.g_Share rfl) pa_nil))))) (pw_or1 (pt_not (pt_chain op_lt op_lt pe_int (pe_fld (pv 0) rfl) (pe_fld (pv 0) rfl))))))
  (pss_one ps_never)
  pss_nil)), ?_⟩
    obtain ⟨p, dx, rfl, hx⟩ := hx
    have dp := x.den_pos
    have h0 : 0 < x.num := by
      have : (0 : Int) * (x.den : Int) < x.num * 1 := (Rat.lt_iff _ _).mp x0
      omega
    have h1 : x.num < x.den := by
      have : x.num * 1 < 1 * (x.den : Int) := (Rat.lt_iff _ _).mp x1
      omega
    refine ⟨_, rfl, _, _, _, _, true, rfl, .own _, tyShare T hx, T.k_Share, true, rfl, iteF ?_⟩
    refine ⟨_, rfl, _, _, _, _, _, rfl, hx, T.cl_Share, T.n_Share_top, flds_top _, _, _, rfl, rfl, true, congrArg V.bl (decide_eq_true h0), iteT ⟨_, rfl, _, _, _, _, _, rfl, hx, T.cl_Share, T.n_Share_bottom, flds_bottom _, _, _, rfl, rfl, true, congrArg V.bl (decide_eq_true h1), iteF q⟩⟩
end

end Fb

namespace Fb
open PySem PySem.Spec PyProof.Rows L2
section
/-! ### the worths of rows: the mathematics -/
def minR (a b : Rat) : Rat := if a < b then a else b
def maxR (a b : Rat) : Rat := if a < b then b else a
def lesR (a q : Rat) : Rat := if q < a then a - q else 0
def canV (z : Str) (d : List Stp) : Rat := if (selD z d).isSome then 1 else 0
def mmR (w : Str) : Rat → Rat → Rat := if w = "both" then minR else maxR
def rowV (x : Rat) (m : Nat) (ds : List (List Stp)) (fs : List (List Rat)) (r : Rw) : List Rat := match r.args with
  | [] => List.replicate m 1
  | [.sg z] => ds.map (canV z)
  | [.sg z, .nu k] => ds.map fun d => x * stepV z d (fs.getD k [])
  | [.nu k] => (fs.getD k []).map (1 - ·)
  | [.nu k, .sh q] => (fs.getD k []).map (lesR · q)
  | [.nu k, .nu j] => List.zipWith (mmR r.word) (fs.getD k []) (fs.getD j [])
  | _ => []
def valsF (x : Rat) (m : Nat) (ds : List (List Stp)) (fs : List (List Rat)) : List Rw → List (List Rat)
  | [] => fs
  | r :: rs => valsF x m ds (fs ++ [rowV x m ds fs r]) rs
def vals (x : Rat) (m : Nat) (ds : List (List Stp)) (rs : List Rw) : List (List Rat) := valsF x m ds [] rs
theorem valsF_snoc (x : Rat) (m : Nat) (ds : List (List Stp)) (r : Rw) : ∀ (rs : List Rw) (fs : List (List Rat)), valsF x m ds fs (rs ++ [r]) = valsF x m ds fs rs ++ [rowV x m ds (valsF x m ds fs rs) r]
  | [], _ => rfl
  | _ :: rs, _ => valsF_snoc x m ds r rs _
theorem vals_snoc (x : Rat) (m : Nat) (ds : List (List Stp)) (rs : List Rw) (r : Rw) : vals x m ds (rs ++ [r]) = vals x m ds rs ++ [rowV x m ds (vals x m ds rs) r] := valsF_snoc x m ds r rs []
theorem valsF_len (x : Rat) (m : Nat) (ds : List (List Stp)) : ∀ (rs : List Rw) (fs : List (List Rat)), (valsF x m ds fs rs).length = fs.length + rs.length
  | [], _ => rfl
  | r :: rs, fs => by
    show (valsF x m ds (fs ++ [rowV x m ds fs r]) rs).length = _
    rw [valsF_len x m ds rs, List.length_append, List.length_cons, List.length_cons, List.length_nil]
    omega
theorem vals_len (x : Rat) (m : Nat) (ds : List (List Stp)) (rs : List Rw) : (vals x m ds rs).length = rs.length := by
  unfold vals
  rw [valsF_len, List.length_nil, Nat.zero_add]
theorem vals_take {x : Rat} {m : Nat} {ds : List (List Stp)} {rs : List Rw} {i : Nat} {r : Rw} (h : rs[i]? = some r) : vals x m ds (rs.take (i + 1)) = vals x m ds (rs.take i) ++ [rowV x m ds (vals x m ds (rs.take i)) r] := by
  rw [List.take_add_one, h]
  exact vals_snoc x m ds _ r
/-! over one bottom -/
theorem valL_len (ts : List Nat) (b : Nat) : (valL ts b).length = ts.length := by
  unfold valL
  rw [List.length_map]
theorem valL_scale {ts : List Nat} {b k : Nat} (k0 : 0 < k) : valL (ts.map (· * k)) (b * k) = valL ts b := by
  unfold valL
  rw [List.map_map]
  refine List.map_congr_left fun n _ => ?_
  show Rat.divInt ((n * k : Nat) : Int) ((b * k : Nat) : Int) = _
  rw [Int.natCast_mul, Int.natCast_mul, Rat.divInt_mul_right (by omega)]
theorem lt_same {a c b : Nat} (b0 : 0 < b) : Rat.divInt (a : Int) (b : Int) < Rat.divInt (c : Int) (b : Int) ↔ a < c := by
  rw [lt_cross (by omega) (by omega), ← Int.sub_mul]
  have b1 : (0 : Int) < (b : Int) := by omega
  constructor
  · intro h
    refine Nat.lt_of_not_le fun hc => ?_
    have := Int.mul_nonneg (Int.mul_nonneg (Int.mul_nonneg (show (0 : Int) ≤ (a : Int) - (c : Int) by omega) (Int.le_of_lt b1)) (Int.le_of_lt b1)) (Int.le_of_lt b1)
    omega
  · intro h
    have := Int.mul_pos (Int.mul_pos (Int.mul_pos (show (0 : Int) < (c : Int) - (a : Int) by omega) b1) b1) b1
    have e : ((a : Int) - (c : Int)) * (b : Int) * (b : Int) * (b : Int) = -(((c : Int) - (a : Int)) * (b : Int) * (b : Int) * (b : Int)) := by
      rw [show (a : Int) - (c : Int) = -((c : Int) - (a : Int)) by omega, Int.neg_mul, Int.neg_mul, Int.neg_mul]
    omega
theorem sub_same {a c b : Nat} (b0 : 0 < b) (h : c ≤ a) : Rat.divInt (a : Int) (b : Int) - Rat.divInt (c : Int) (b : Int) = Rat.divInt ((a - c : Nat) : Int) (b : Int) := by
  rw [Rat.divInt_sub_divInt _ _ (by omega) (by omega), ← Int.sub_mul, Rat.divInt_mul_right (by omega)]
  congr 1
  omega
theorem lesR_same {a c b : Nat} (b0 : 0 < b) : lesR (Rat.divInt (a : Int) (b : Int)) (Rat.divInt (c : Int) (b : Int)) = Rat.divInt ((a - c : Nat) : Int) (b : Int) := by
  unfold lesR
  by_cases h : c < a
  · rw [if_pos ((lt_same b0).mpr h), sub_same b0 (by omega)]
  · rw [if_neg fun z => h ((lt_same b0).mp z), show a - c = 0 by omega]
    exact (Rat.zero_divInt _).symm
theorem minR_same {a c b : Nat} (b0 : 0 < b) : minR (Rat.divInt (a : Int) (b : Int)) (Rat.divInt (c : Int) (b : Int)) = Rat.divInt ((min a c : Nat) : Int) (b : Int) := by
  unfold minR
  by_cases h : a < c
  · rw [if_pos ((lt_same b0).mpr h), Nat.min_eq_left (by omega)]
  · rw [if_neg fun z => h ((lt_same b0).mp z), Nat.min_eq_right (by omega)]
theorem maxR_same {a c b : Nat} (b0 : 0 < b) : maxR (Rat.divInt (a : Int) (b : Int)) (Rat.divInt (c : Int) (b : Int)) = Rat.divInt ((max a c : Nat) : Int) (b : Int) := by
  unfold maxR
  by_cases h : a < c
  · rw [if_pos ((lt_same b0).mpr h), Nat.max_eq_right (by omega)]
  · rw [if_neg fun z => h ((lt_same b0).mp z), Nat.max_eq_left (by omega)]
theorem not_val {ts : List Nat} {b : Nat} (b0 : 0 < b) (h : ∀ n ∈ ts, n ≤ b) : valL (ts.map (b - ·)) b = (valL ts b).map (1 - ·) := by
  unfold valL
  rw [List.map_map, List.map_map]
  refine List.map_congr_left fun n hn => ?_
  show Rat.divInt ((b - n : Nat) : Int) (b : Int) = 1 - Rat.divInt (n : Int) (b : Int)
  rw [← sub_same b0 (h n hn), Rat.divInt_self' (by omega)]
theorem les_val {ts : List Nat} {b k : Nat} {q : Rat} (b0 : 0 < b) (hq : q = Rat.divInt (k : Int) (b : Int)) : valL (ts.map (· - k)) b = (valL ts b).map (lesR · q) := by
  unfold valL
  rw [List.map_map, List.map_map]
  refine List.map_congr_left fun n _ => ?_
  show Rat.divInt ((n - k : Nat) : Int) (b : Int) = lesR (Rat.divInt (n : Int) (b : Int)) q
  rw [hq, lesR_same b0]
theorem zip_val {f : Rat → Rat → Rat} {p : Nat → Nat → Nat} {b : Nat} (h : ∀ a c : Nat, f (Rat.divInt (a : Int) (b : Int)) (Rat.divInt (c : Int) (b : Int)) = Rat.divInt ((p a c : Nat) : Int) (b : Int)) (ts us : List Nat) : valL (List.zipWith p ts us) b = List.zipWith f (valL ts b) (valL us b) := by
  unfold valL
  rw [List.zipWith_map, List.map_zipWith]
  congr 1
  funext a c
  exact (h a c).symm
def mmN (w : Str) : Nat → Nat → Nat := if w = "both" then min else max
theorem mm_same {w : Str} {b : Nat} (b0 : 0 < b) (a c : Nat) : mmR w (Rat.divInt (a : Int) (b : Int)) (Rat.divInt (c : Int) (b : Int)) = Rat.divInt ((mmN w a c : Nat) : Int) (b : Int) := by
  unfold mmR mmN
  split
  · exact minR_same b0
  · exact maxR_same b0
theorem mmN_le {w : Str} {a c b : Nat} (ha : a ≤ b) (hc : c ≤ b) : mmN w a c ≤ b := by
  unfold mmN
  split
  · exact Nat.le_trans (Nat.min_le_left _ _) ha
  · exact Nat.max_le.mpr ⟨ha, hc⟩
/-- numbers of a level over a bottom -/
def Lev (m M : Nat) (f : List Rat) : Prop := ∃ ts : List Nat, ts.length = m ∧ (∀ n ∈ ts, n ≤ M) ∧ valL ts M = f
theorem Lev.up {m b M : Nat} {f : List Rat} (h : Lev m b f) (hd : b ∣ M) (M0 : 0 < M) : Lev m M f := by
  obtain ⟨ts, l, hb, e⟩ := h
  obtain ⟨k, rfl⟩ := hd
  have k0 : 0 < k := Nat.pos_of_ne_zero fun z => by
    rw [z, Nat.mul_zero] at M0
    omega
  refine ⟨ts.map (· * k), by rw [List.length_map, l], fun n hn => ?_, by rw [valL_scale k0, e]⟩
  obtain ⟨t, ht, rfl⟩ := List.mem_map.mp hn
  exact Nat.mul_le_mul_right k (hb t ht)
theorem Lev.bd {m M N : Nat} {f : List Rat} (h : Lev m M f) (M0 : 0 < M) (hM : M < 2 ^ N) : f.length = m ∧ ∀ q ∈ f, Bd N q ∧ 0 ≤ q ∧ q ≤ 1 := by
  obtain ⟨ts, l, hb, rfl⟩ := h
  exact ⟨by rw [valL_len, l], lev_bd M0 hb hM⟩
def upM (gx : Nat) (M : Nat) (r : Rw) : Nat := if r.word = "on" then M * gx else M
def botF (gx g : Nat) (rs : List Rw) : Nat := rs.foldl (upM gx) g
theorem botF_take {gx g : Nat} {rs : List Rw} {i : Nat} {r : Rw} (h : rs[i]? = some r) : botF gx g (rs.take (i + 1)) = upM gx (botF gx g (rs.take i)) r := by
  unfold botF
  rw [List.take_add_one, h, List.foldl_append]
  rfl
theorem upM_dvd (gx M : Nat) (r : Rw) : M ∣ upM gx M r := by
  unfold upM
  split
  · exact Nat.dvd_mul_right _ _
  · exact Nat.dvd_refl _
theorem upM_pos {gx M : Nat} (r : Rw) (h1 : 0 < gx) (h2 : 0 < M) : 0 < upM gx M r := by
  unfold upM
  split
  · exact Nat.mul_pos h2 h1
  · exact h2
theorem botF_pos {gx g : Nat} (h1 : 0 < gx) (h2 : 0 < g) (rs : List Rw) : 0 < botF gx g rs := by
  unfold botF
  induction rs generalizing g with
  | nil => exact h2
  | cons r rs ih => exact ih (upM_pos r h1 h2)
theorem botF_dvd (gx : Nat) : ∀ (rs : List Rw) (g : Nat), g ∣ botF gx g rs
  | [], g => Nat.dvd_refl g
  | r :: rs, g => Nat.dvd_trans (upM_dvd gx g r) (botF_dvd gx rs _)
theorem botF_app (gx g : Nat) (a b : List Rw) : botF gx g (a ++ b) = botF gx (botF gx g a) b := List.foldl_append
theorem botF_take_dvd (gx g : Nat) (rs : List Rw) (i : Nat) : botF gx g (rs.take i) ∣ botF gx g rs := by
  have e : botF gx g rs = botF gx (botF gx g (rs.take i)) (rs.drop i) := by rw [← botF_app, List.take_append_drop]
  rw [e]
  exact botF_dvd gx _ _
/-- how many rows step on -/
def onc (rs : List Rw) : Nat := (rs.filter fun (r : Rw) => decide (r.word = "on")).length
theorem botF_lt {gx A : Nat} (hx : gx < 2 ^ A) : ∀ (rs : List Rw) {g B : Nat}, g < 2 ^ B → botF gx g rs < 2 ^ (B + A * onc rs)
  | [], g, B, h => by
    show g < 2 ^ (B + A * 0)
    rw [Nat.mul_zero]
    exact h
  | r :: rs, g, B, h => by
    show botF gx (upM gx g r) rs < _
    unfold upM onc
    rw [List.filter_cons]
    by_cases e : r.word = "on"
    · rw [if_pos e, if_pos (by simpa using e)]
      have h1 : g * gx < 2 ^ (B + A) := by
        rw [Nat.pow_add]
        exact Nat.mul_lt_mul'' h hx
      have h2 := botF_lt hx rs h1
      rw [List.length_cons, Nat.mul_succ]
      unfold onc at h2
      rw [show B + (A * (rs.filter fun (r : Rw) => decide (r.word = "on")).length + A) = B + A + A * (rs.filter fun (r : Rw) => decide (r.word = "on")).length by omega]
      exact h2
    · rw [if_neg e, if_neg (by simpa using e)]
      exact botF_lt hx rs h
theorem botF_pw {gx g k : Nat} (hx : gx ∣ g ^ 2) : ∀ (rs : List Rw) {M : Nat}, M ∣ g ^ k → botF gx M rs ∣ g ^ (k + 2 * onc rs)
  | [], M, h => h
  | r :: rs, M, h => by
    show botF gx (upM gx M r) rs ∣ _
    unfold upM onc
    rw [List.filter_cons]
    by_cases e : r.word = "on"
    · rw [if_pos e, if_pos (by simpa using e)]
      have h1 : M * gx ∣ g ^ (k + 2) := by
        rw [Nat.pow_add]
        exact Nat.mul_dvd_mul h hx
      have h2 := botF_pw hx rs h1
      unfold onc at h2
      rw [List.length_cons, show k + 2 * ((rs.filter fun (r : Rw) => decide (r.word = "on")).length + 1) = k + 2 + 2 * (rs.filter fun (r : Rw) => decide (r.word = "on")).length by omega]
      exact h2
    · rw [if_neg e, if_neg (by simpa using e)]
      exact botF_pw hx rs h
end

end Fb

namespace Fb
open PySem PySem.Spec PyProof.Rows L2
section
variable {P : Program} {w : World} {K : PySem.W.Frag} {mg : Str → Option Value} {base : Heap}
/-! ### same_bottoms, inverse, lessened, faded, book_grain -/
def lcmN (L d : Nat) : Nat := L * (d / Nat.gcd L d)
theorem lcmN_dvd (L d : Nat) : L ∣ lcmN L d ∧ d ∣ lcmN L d := ⟨Nat.dvd_mul_right _ _, den_dvd_step L d⟩
theorem lcmN_of {L d M : Nat} (h1 : L ∣ M) (h2 : d ∣ M) : lcmN L d ∣ M := by
  unfold lcmN
  rw [← Nat.mul_div_assoc _ (Nat.gcd_dvd_right _ _)]
  exact Nat.lcm_dvd h1 h2
theorem lcmN_pos {L d : Nat} (h1 : 0 < L) (h2 : 0 < d) : 0 < lcmN L d := Nat.mul_pos h1 (Nat.div_pos (Nat.le_of_dvd h2 (Nat.gcd_dvd_right _ _)) (Nat.gcd_pos_of_pos_left _ h1))
theorem lcmN_self {L : Nat} (h1 : 0 < L) : lcmN L L = L := by
  unfold lcmN
  rw [Nat.gcd_self, Nat.div_self h1, Nat.mul_one]
theorem lcmN_lt {L d a b : Nat} (h1 : L < 2 ^ a) (h2 : d < 2 ^ b) : lcmN L d < 2 ^ (a + b) := by
  unfold lcmN
  rw [Nat.pow_add]
  exact Nat.lt_of_le_of_lt (Nat.mul_le_mul_left _ (Nat.div_le_self _ _)) (Nat.mul_lt_mul'' h1 h2)
theorem nts_map {ys : List V} {ts : List Nat} {f : Nat → Nat} (l : ys.length = ts.length) (r : ∀ (i : Nat) y, ys[i]? = some y → ∃ n, ts[i]? = some n ∧ y = .int ((f n : Nat) : Int)) : ys = nts (ts.map f) := by
  refine List.ext_getElem? fun i => ?_
  by_cases hi : i < ys.length
  · obtain ⟨n, hn, hy⟩ := r i _ (List.getElem?_eq_getElem hi)
    rw [List.getElem?_eq_getElem hi, hy]
    unfold nts
    rw [List.map_map, List.getElem?_map, hn]
    rfl
  · rw [List.getElem?_eq_none (by omega), List.getElem?_eq_none (by rw [nts_len, List.length_map, ← l]; omega)]
def spSameB : Sp := fun vs H Q _ => ∃ (t1 t2 a1 a2 : Addr) (b1 b2 : Nat) (ts1 ts2 : List Nat), vs = [.ref t1, .ref t2] ∧ H t1 = some (.tup [.ref a1, .int (b1 : Nat)]) ∧ H t2 = some (.tup [.ref a2, .int (b2 : Nat)]) ∧ H a1 = some (.lst (nts ts1)) ∧ H a2 = some (.lst (nts ts2)) ∧ ts1.length ≤ 900 ∧ ts2.length ≤ 900 ∧ 0 < b1 ∧ 0 < b2 ∧ b1 < 2 ^ 8001 ∧ b2 < 2 ^ 8001 ∧ (∀ n ∈ ts1, n ≤ b1) ∧ (∀ n ∈ ts2, n ≤ b2) ∧
  ∀ H' t c1 c2, Same H H' → H' t = some (.tup [.ref c1, .ref c2, .int (lcmN b1 b2 : Nat)]) → H' c1 = some (.lst (nts (ts1.map (· * (lcmN b1 b2 / b1))))) → H' c2 = some (.lst (nts (ts2.map (· * (lcmN b1 b2 / b2))))) → Q (.ref t) H'
theorem map_one {ts : List Nat} {b : Nat} (b0 : 0 < b) : ts.map (· * (b / b)) = ts := by
  rw [Nat.div_self b0]
  simp
set_option maxHeartbeats 800000 in
theorem ok_p_same_bottoms (T : Txt K mg) : FnOk P w K mg base CX0 3 T.f_p_same_bottoms T.d_p_same_bottoms ["one", "other"] spSameB := by
  refine T.F_p_same_bottoms.ok sc_p_same_bottoms (fun vs H Q E h => ?_) (fun cdv A outer s H vs Q E hr h => ?_)
  · obtain ⟨t1, t2, a1, a2, b1, b2, ts1, ts2, rfl, _⟩ := h
    rfl
  · obtain ⟨t1, t2, a1, a2, b1, b2, ts1, ts2, rfl, h1, h2, e1, e2, l1, l2, p1, p2, g1, g2, q1, q2, q⟩ := h
    refine ⟨_, (pss_cons (ps_asg (pv 0) (pg_tup (by rfl) (pgs_cons (pg_name (i := 2) sc_p_same_bottoms.nd rfl (.inl rfl)) (pgs_cons (pg_name (i := 3) sc_p_same_bottoms.nd rfl (.inr rfl)) pgs_nil))))
 (pss_cons (ps_asg (pv 1) (pg_tup (by rfl) (pgs_cons (pg_name (i := 4) sc_p_same_bottoms.nd rfl (.inl rfl)) (pgs_cons (pg_name (i := 5) sc_p_same_bottoms.nd rfl (.inr rfl)) pgs_nil))))
 (pss_cons (ps_if (pt_cmpR op_eq (pv 3) (pv 5) (nomark _))
  (pss_one (ps_ret (pe_tup (pa_cons (pv 2) (pa_cons (pv 4) (pa_cons (pv 3) pa_nil))))))
  pss_nil)
 (pss_cons (ps_set (i := 6) sc_p_same_bottoms.nd rfl (.inr rfl) (pe_call (ok_p_common_multiple T) (hr.mono (by decide)) (by rfl) T.g_p_common_multiple T.F_p_common_multiple.kp T.b_p_common_multiple .nil pass0 (pa_cons (pv 3) (pa_cons (pv 5) pa_nil))))
 (pss_one (ps_ret (pe_tup (pa_cons (pe_lc (own := [("top", 7)]) (g := (gName 7)) (tt := tYes) (by rfl) sc_p_same_bottoms.nd (pi_list (pv 2)) (blkOk_by (own := [("top", 7)]) (N := ["one", "other", "ours", "near", "theirs", "far", "bottom", "top"]) (sc := defScope s_p_same_bottoms) (by decide +kernel)) (fun _ _ _ _ _ => by exact (pg_name (i := 7) sc_p_same_bottoms.nd rfl (.inl rfl))) (fun _ _ _ _ _ => by exact pts_nil) (fun _ _ _ _ _ => by exact (pe_op op_mulW (pv 7) (pe_op op_fdivW (pv 6) (pv 3))))) (pa_cons (pe_lc (own := [("top", 7)]) (g := (gName 7)) (tt := tYes) (by rfl) sc_p_same_bottoms.nd (pi_list (pv 4)) (blkOk_by (own := [("top", 7)]) (N := ["one", "other", "ours", "near", "theirs", "far", "bottom", "top"]) (sc := defScope s_p_same_bottoms) (by decide +kernel)) (fun _ _ _ _ _ => by exact (pg_name (i := 7) sc_p_same_bottoms.nd rfl (.inl rfl))) (fun _ _ _ _ _ => by exact pts_nil) (fun _ _ _ _ _ => by exact (pe_op op_mulW (pv 7) (pe_op op_fdivW (pv 6) (pv 5))))) (pa_cons (pv 6) pa_nil)))))))))), ?_⟩
    refine ⟨_, rfl, t1, _, rfl, .inl (.inl h1), rfl, _, _, rfl, _, _, rfl, rfl, ?_⟩
    refine ⟨_, rfl, t2, _, rfl, .inl (.inl h2), rfl, _, _, rfl, _, _, rfl, rfl, ?_⟩
    refine ⟨_, rfl, _, rfl, rfl, _, rfl, ite2 (fun e => ?_) (fun _ => ?_)⟩
    · have eb : b1 = b2 := by
        have := V.int.inj (of_decide_eq_true e)
        omega
      subst eb
      rw [lcmN_self p1, map_one p1, map_one p1] at q
      refine ⟨_, rfl, _, rfl, _, rfl, by show 3 ≤ sizeLine; decide, fun t nt => ?_⟩
      have st := same_upd (o := .tup [.ref a1, .ref a2, .int (b1 : Nat)]) nt
      exact q _ t a1 a2 st upd_same (st _ _ e1) (st _ _ e2)
    · refine ⟨_, rfl, _, rfl, b1, b2, rfl, p1, p2, g1, g2, ?_⟩
      change _ at *
      obtain ⟨B, eB⟩ : ∃ B, B = lcmN b1 b2 := ⟨_, rfl⟩
      have eB' : b1 * (b2 / Nat.gcd b1 b2) = B := eB.symm
      rw [← eB] at q
      rw [eB']
      have B0 : 0 < B := by rw [eB]; exact lcmN_pos p1 p2
      have Bl : B < 2 ^ 16002 := by rw [eB]; exact lcmN_lt g1 g2
      have fd : ∀ b : Nat, 0 < b → ((B : Int) / (b : Int)).natAbs < 2 ^ 16002 := fun b _ => by
        rw [← Int.natCast_ediv]
        exact nat_abs (Nat.lt_of_le_of_lt (Nat.div_le_self _ _) Bl)
      refine ⟨_, rfl, a1, rfl, ⟨_, SqL.of e1⟩, fun D nD => lc_allW (walk_list (K := K) (a := a1) (xs := nts ts1)) (fun i y _ => ∃ n, ts1[i]? = some n ∧ y = .int ((n * (B / b1) : Nat) : Int)) (fun _ _ _ _ _ h => h) nD (fun H' s => SqL.of (s _ _ e1)) (by rw [nts_len]; omega) (fun i u H2 H3 kk hi s2 eD y hk2 => ?_) (fun H2 ys s2 e l r => ?_)⟩
      · obtain ⟨rfl, hv⟩ := y
        obtain ⟨n, hn, rfl⟩ := nts_at hv
        refine ⟨rfl, _, rfl, _, rfl, _, rfl, _, _, rfl, rfl, wide_div (by omega) (nat_abs g1) (by decide) (by decide), _, _, rfl, rfl, wide_mul (nat_abs (Nat.lt_of_le_of_lt (q1 n (List.mem_of_getElem? hn)) g1)) (fd b1 p1) (by decide) (by decide) (by decide), hk2 _ _ (Same.refl _) ⟨n, hn, ?_⟩⟩
        dsimp only
        rw [Int.natCast_mul, Int.natCast_ediv]
      · rw [nts_map (f := (· * (B / b1))) (by rw [l, nts_len]) r] at e
        have sA : Same H H2 := s2.trans hid_same
        have e2' := sA _ _ e2
        refine ⟨_, rfl, a2, rfl, ⟨_, SqL.of e2'⟩, fun D2 nD2 => lc_allW (walk_list (K := K) (a := a2) (xs := nts ts2)) (fun i y _ => ∃ n, ts2[i]? = some n ∧ y = .int ((n * (B / b2) : Nat) : Int)) (fun _ _ _ _ _ h => h) nD2 (fun H' s => SqL.of (s _ _ e2')) (by rw [nts_len]; omega) (fun i u H4 H5 kk hi s4 eD y hk2 => ?_) (fun H4 ys4 s4 e4 l4 r4 => ?_)⟩
        · obtain ⟨rfl, hv⟩ := y
          obtain ⟨n, hn, rfl⟩ := nts_at hv
          refine ⟨rfl, _, rfl, _, rfl, _, rfl, _, _, rfl, rfl, wide_div (by omega) (nat_abs g2) (by decide) (by decide), _, _, rfl, rfl, wide_mul (nat_abs (Nat.lt_of_le_of_lt (q2 n (List.mem_of_getElem? hn)) g2)) (fd b2 p2) (by decide) (by decide) (by decide), hk2 _ _ (Same.refl _) ⟨n, hn, ?_⟩⟩
          dsimp only
          rw [Int.natCast_mul, Int.natCast_ediv]
        · rw [nts_map (f := (· * (B / b2))) (by rw [l4, nts_len]) r4] at e4
          have sB : Same H2 H4 := s4.trans hid_same
          refine ⟨_, rfl, by show 3 ≤ sizeLine; decide, fun t nt => ?_⟩
          have st := same_upd (o := .tup [.ref D, .ref D2, .int (B : Nat)]) nt
          exact q _ t D D2 (sA.trans (sB.trans st)) upd_same (st _ _ (sB _ _ e)) (st _ _ e4)
def spInv : Sp := fun vs H Q _ => ∃ (t a : Addr) (ts : List Nat) (b : Nat), vs = [.ref t] ∧ H t = some (.tup [.ref a, .int (b : Nat)]) ∧ H a = some (.lst (nts ts)) ∧ ts.length ≤ 900 ∧ (∀ n ∈ ts, n ≤ b) ∧
  ∀ H' t' a', Same H H' → H' t' = some (.tup [.ref a', .int (b : Nat)]) → H' a' = some (.lst (nts (ts.map (b - ·)))) → Q (.ref t') H'
theorem ok_p_inverse (T : Txt K mg) : FnOk P w K mg base CX0 1 T.f_p_inverse T.d_p_inverse ["level"] spInv := by
  refine T.F_p_inverse.ok sc_p_inverse (fun vs H Q E h => ?_) (fun cdv A outer s H vs Q E hr h => ?_)
  · obtain ⟨t, a, ts, b, rfl, _⟩ := h
    rfl
  · obtain ⟨t, a, ts, b, rfl, ht, ha, l9, tb', q⟩ := h
    refine ⟨_, (pss_cons (ps_asg (pv 0) (pg_tup (by rfl) (pgs_cons (pg_name (i := 1) sc_p_inverse.nd rfl (.inl rfl)) (pgs_cons (pg_name (i := 2) sc_p_inverse.nd rfl (.inr rfl)) pgs_nil))))
 (pss_one (ps_ret (pe_tup (pa_cons (pe_lc (own := [("top", 3)]) (g := (gName 3)) (tt := tYes) (by rfl) sc_p_inverse.nd (pi_list (pv 1)) (blkOk_by (own := [("top", 3)]) (N := ["level", "tops", "bottom", "top"]) (sc := defScope s_p_inverse) (by decide +kernel)) (fun _ _ _ _ _ => by exact (pg_name (i := 3) sc_p_inverse.nd rfl (.inl rfl))) (fun _ _ _ _ _ => by exact pts_nil) (fun _ _ _ _ _ => by exact (pe_op op_sub (pv 2) (pv 3)))) (pa_cons (pv 2) pa_nil)))))), ?_⟩
    refine ⟨_, rfl, t, _, rfl, .inl (.inl ht), rfl, _, _, rfl, _, _, rfl, rfl, ?_⟩
    refine ⟨_, rfl, a, rfl, ⟨_, SqL.of ha⟩, fun D nD => lc_allW (walk_list (K := K) (a := a) (xs := nts ts)) (fun i y _ => ∃ n, ts[i]? = some n ∧ y = .int ((b - n : Nat) : Int)) (fun _ _ _ _ _ h => h) nD (fun H' s => SqL.of (s _ _ ha)) (by rw [nts_len]; omega) (fun i u H2 H3 kk hi s2 eD y hk2 => ?_) (fun H2 ys s2 e l r => ?_)⟩
    · obtain ⟨rfl, hv⟩ := y
      obtain ⟨n, hn, rfl⟩ := nts_at hv
      have := tb' n (List.mem_of_getElem? hn)
      refine ⟨rfl, _, rfl, _, rfl, _, _, rfl, rfl, hk2 _ _ (Same.refl _) ⟨n, hn, ?_⟩⟩
      dsimp only
      congr 1
      omega
    · rw [nts_map (f := (b - ·)) (by rw [l, nts_len]) r] at e
      have sA : Same H H2 := s2.trans hid_same
      refine ⟨_, rfl, by show 2 ≤ sizeLine; decide, fun t' nt => ?_⟩
      have st := same_upd (o := .tup [.ref D, .int (b : Nat)]) nt
      exact q _ t' D (sA.trans st) upd_same (st _ _ e)
def spLessn (C : Addr) : Sp := fun vs H Q _ => ∃ (v : V) (x : Rat) (k : Nat) (t a : Addr) (ts : List Nat) (b : Nat), vs = [.ref t, v] ∧ IsShare C H v x ∧ x.num = (k : Int) ∧ k ≤ x.den ∧ x.den < 2 ^ 8001 ∧ H t = some (.tup [.ref a, .int (b : Nat)]) ∧ H a = some (.lst (nts ts)) ∧ ts.length ≤ 900 ∧ 0 < b ∧ b < 2 ^ 8001 ∧ (∀ n ∈ ts, n ≤ b) ∧
  ∀ H' t' a', Same H H' → H' t' = some (.tup [.ref a', .int (lcmN b x.den : Nat)]) → H' a' = some (.lst (nts (ts.map fun n => n * (lcmN b x.den / b) - k * (lcmN b x.den / x.den)))) → Q (.ref t') H'
theorem ok_p_lessened (T : Txt K mg) : FnOk P w K mg base CX0 4 T.f_p_lessened T.d_p_lessened ["level", "share"] (spLessn T.c_Share) := by
  refine T.F_p_lessened.ok sc_p_lessened (fun vs H Q E h => ?_) (fun cdv A outer s H vs Q E hr h => ?_)
  · obtain ⟨v, x, k, t, a, ts, b, rfl, _⟩ := h
    rfl
  · obtain ⟨v, x, k, t, a, ts, b, rfl, ⟨p, dx, rfl, hx⟩, hk, kd, d1, ht, ha, l9, b0, b1, tb', q⟩ := h
    refine ⟨_, (pss_cons (ps_asg (pe_call (ok_p_same_bottoms T) (hr.mono (by decide)) (by rfl) T.g_p_same_bottoms T.F_p_same_bottoms.kp T.b_p_same_bottoms .nil pass0 (pa_cons (pv 0) (pa_cons (pe_tup (pa_cons (pe_lst (pa_cons (pe_fld (pv 1) rfl) pa_nil)) (pa_cons (pe_fld (pv 1) rfl) pa_nil))) pa_nil))) (pg_tup (by rfl) (pgs_cons (pg_name (i := 2) sc_p_lessened.nd rfl (.inl rfl)) (pgs_cons (pg_name (i := 3) sc_p_lessened.nd rfl (.inr rfl)) (pgs_cons (pg_name (i := 4) sc_p_lessened.nd rfl (.inl rfl)) pgs_nil)))))
 (pss_one (ps_ret (pe_tup (pa_cons (pe_lc (own := [("top", 5)]) (g := (gName 5)) (tt := tYes) (by rfl) sc_p_lessened.nd (pi_list (pv 2)) (blkOk_by (own := [("top", 5)]) (N := ["level", "share", "tops", "lower", "bottom", "top"]) (sc := defScope s_p_lessened) (by decide +kernel)) (fun _ _ _ _ _ => by exact (pg_name (i := 5) sc_p_lessened.nd rfl (.inl rfl))) (fun _ _ _ _ _ => by exact pts_nil) (fun _ _ _ _ _ => by exact (pe_callB (call_max2 rfl) (by rfl) T.z_max (by decide +kernel) (pa_cons pe_int (pa_cons (pe_op op_sub (pv 5) (pe_ix (ix_listK (K := K) rfl) (pv 3) pe_int (fun _ _ => rfl))) pa_nil))))) (pa_cons (pv 4) pa_nil)))))), ?_⟩
    refine ⟨_, rfl, _, rfl, _, _, _, _, _, rfl, hx, T.cl_Share, T.n_Share_top, flds_top _, by show 1 ≤ sizeLine; decide, fun l nl => ?_⟩
    have sl := same_upd (o := .lst [.int x.num]) nl
    have el : (upd H l (.lst [.int x.num])) l = some (.lst (nts [k])) := by rw [upd_same, hk]; rfl
    have hx2 := sl _ _ hx
    have ht2 := sl _ _ ht
    have ha2 := sl _ _ ha
    generalize upd H l (.lst [.int x.num]) = H1 at *
    refine ⟨_, rfl, _, _, _, _, _, rfl, hx2, T.cl_Share, T.n_Share_bottom, flds_bottom _, by show 2 ≤ sizeLine; decide, fun t2 nt2 => ?_⟩
    have s2 := same_upd (o := .tup [.ref l, .int (x.den : Int)]) nt2
    refine ⟨t, t2, a, l, b, x.den, ts, [k], rfl, s2 _ _ ht2, upd_same, s2 _ _ ha2, s2 _ _ el, l9, by show 1 ≤ 900; decide, b0, x.den_pos, b1, d1, tb', fun n hn => by rw [List.mem_singleton.mp hn]; exact kd, fun H3 t3 c1 c2 s3 e3 f1 f2 => ?_⟩
    refine ⟨t3, _, rfl, .inl (.inl e3), rfl, _, _, rfl, _, _, rfl, _, _, rfl, rfl, ?_⟩
    have sA : Same H H3 := sl.trans (s2.trans s3)
    clear hx hx2 ht ht2 ha ha2 el nl nt2 s2 s3 sl
    generalize hB : lcmN b x.den = B at *
    refine ⟨_, rfl, c1, rfl, ⟨_, SqL.of f1⟩, fun D nD => lc_allW (walk_list (K := K) (a := c1) (xs := nts (ts.map (· * (B / b))))) (fun i y _ => ∃ n, ts[i]? = some n ∧ y = .int ((n * (B / b) - k * (B / x.den) : Nat) : Int)) (fun _ _ _ _ _ h => h) nD (fun H' s => SqL.of (s _ _ f1)) (by rw [nts_len, List.length_map]; omega) (fun i u H4 H5 kk hi s4 eD y hk2 => ?_) (fun H4 ys s4 e l r => ?_)⟩
    · obtain ⟨rfl, hv⟩ := y
      obtain ⟨n', hn', rfl⟩ := nts_at hv
      rw [List.getElem?_map] at hn'
      obtain ⟨n, hn, rfl⟩ := Option.map_eq_some_iff.mp hn'
      have f2' := hid_same _ _ (s4 _ _ f2)
      refine ⟨rfl, _, rfl, _, rfl, c2, _, _, _, rfl, rfl, SqL.of f2', atI_nat (j := 0) rfl, _, _, rfl, rfl, 0, _, rfl, hk2 _ _ (Same.refl _) ⟨n, hn, ?_⟩⟩
      dsimp only
      generalize n * (B / b) = u1
      show V.int (if ((u1 : Nat) : Int) - ((k * (B / x.den) : Nat) : Int) > 0 then ((u1 : Nat) : Int) - ((k * (B / x.den) : Nat) : Int) else 0) = V.int ((u1 - k * (B / x.den) : Nat) : Int)
      generalize k * (B / x.den) = u2
      congr 1
      split <;> omega
    · rw [nts_map (ts := ts) (f := fun n => n * (B / b) - k * (B / x.den)) (by rw [l, nts_len, List.length_map]) r] at e
      have sB : Same H3 H4 := s4.trans hid_same
      refine ⟨_, rfl, by show 2 ≤ sizeLine; decide, fun t' nt => ?_⟩
      have st := same_upd (o := .tup [.ref D, .int (B : Nat)]) nt
      exact q _ t' D (sA.trans (sB.trans st)) upd_same (st _ _ e)
def spFaded (C : Addr) : Sp := fun vs H Q _ => ∃ (v : V) (x : Rat) (t a : Addr) (ts : List Nat) (b : Nat), vs = [v, .ref t] ∧ IsShare C H v x ∧ 0 < x ∧ x < 1 ∧ Bd 4000 x ∧ H t = some (.tup [.ref a, .int b]) ∧ H a = some (.lst (nts ts)) ∧ ts.length ≤ 900 ∧ 0 < b ∧ b < 2 ^ 16002 ∧ (∀ n ∈ ts, n ≤ b) ∧
  ∀ H' t' a' us, Same H H' → H' t' = some (.tup [.ref a', .int ((b * x.den : Nat) : Int)]) → H' a' = some (.lst (nts us)) → us.length = ts.length → (∀ n ∈ us, n ≤ b * x.den) → valL us (b * x.den) = (valL ts b).map (x * ·) → Q (.ref t') H'
theorem ok_p_faded (T : Txt K mg) : FnOk P w K mg base CX0 1 T.f_p_faded T.d_p_faded ["fade", "level"] (spFaded T.c_Share) := by
  refine T.F_p_faded.ok sc_p_faded (fun vs H Q E h => ?_) (fun cdv A outer s H vs Q E hr h => ?_)
  · obtain ⟨v, x, t, a, ts, b, rfl, _⟩ := h
    rfl
  · obtain ⟨v, x, t, a, ts, b, rfl, ⟨p, dx, rfl, hx⟩, x0, x1, bx, ht, ha, l9, b0, b1, tb', q⟩ := h
    refine ⟨_, (pss_cons (ps_asg (pv 1) (pg_tup (by rfl) (pgs_cons (pg_name (i := 2) sc_p_faded.nd rfl (.inl rfl)) (pgs_cons (pg_name (i := 3) sc_p_faded.nd rfl (.inl rfl)) pgs_nil))))
 (pss_one (ps_ret (pe_tup (pa_cons (pe_lc (own := [("top", 4)]) (g := (gName 4)) (tt := tYes) (by rfl) sc_p_faded.nd (pi_list (pv 2)) (blkOk_by (own := [("top", 4)]) (N := ["fade", "level", "tops", "bottom", "top"]) (sc := defScope s_p_faded) (by decide +kernel)) (fun _ _ _ _ _ => by exact (pg_name (i := 4) sc_p_faded.nd rfl (.inl rfl))) (fun _ _ _ _ _ => by exact pts_nil) (fun _ _ _ _ _ => by exact (pe_op op_mulW (pv 4) (pe_fldK (K := K) rfl (pv 0) rfl)))) (pa_cons (pe_op op_mulW (pv 3) (pe_fld (pv 0) rfl)) pa_nil)))))), ?_⟩
    have dp := x.den_pos
    have h0 : 0 < x.num := by
      have : (0 : Int) * (x.den : Int) < x.num * 1 := (Rat.lt_iff _ _).mp x0
      omega
    have h1 : x.num < x.den := by
      have : x.num * 1 < 1 * (x.den : Int) := (Rat.lt_iff _ _).mp x1
      omega
    obtain ⟨k, hk⟩ : ∃ k : Nat, x.num = (k : Int) := ⟨x.num.toNat, by omega⟩
    have kd : k ≤ x.den := by omega
    refine ⟨_, rfl, t, _, rfl, .inl (.inl ht), rfl, _, _, rfl, _, _, rfl, rfl, ?_⟩
    refine ⟨_, rfl, a, rfl, ⟨_, SqL.of ha⟩, fun D nD => lc_allW (walk_list (K := K) (a := a) (xs := nts ts)) (fun i y _ => ∃ n, ts[i]? = some n ∧ y = .int ((n * k : Nat) : Int)) (fun _ _ _ _ _ h => h) nD (fun H' s => SqL.of (s _ _ ha)) (by rw [nts_len]; omega) (fun i u H2 H3 kk hi s2 eD y hk2 => ?_) (fun H2 ys s2 e l r => ?_)⟩
    · obtain ⟨rfl, hv⟩ := y
      obtain ⟨n, hn, rfl⟩ := nts_at hv
      have hx3 := hid_same _ _ (s2 _ _ hx)
      have nb : n < 2 ^ 16002 := Nat.lt_of_le_of_lt (tb' n (List.mem_of_getElem? hn)) b1
      refine ⟨rfl, _, rfl, _, rfl, _, _, _, _, _, rfl, hx3, T.cl_Share, T.n_Share_top, flds_top _, _, _, rfl, rfl, wide_mul (nat_abs nb) bx.num (by decide) (by decide) (by decide), hk2 _ _ (Same.refl _) ⟨n, hn, ?_⟩⟩
      dsimp only
      rw [hk, Int.natCast_mul]
    · have ey : ys = nts (ts.map (· * k)) := by
        refine List.ext_getElem? fun i => ?_
        by_cases hi : i < ys.length
        · obtain ⟨n, hn, hy⟩ := r i _ (List.getElem?_eq_getElem hi)
          rw [List.getElem?_eq_getElem hi, hy]
          unfold nts
          rw [List.map_map, List.getElem?_map, hn]
          rfl
        · rw [List.getElem?_eq_none (by omega), List.getElem?_eq_none (by rw [nts_len, List.length_map, ← nts_len]; omega)]
      rw [ey] at e
      have s2' : Same H H2 := s2.trans hid_same
      refine ⟨_, rfl, _, rfl, _, _, _, _, _, rfl, (s2' _ _ hx), T.cl_Share, T.n_Share_bottom, flds_bottom _, _, _, rfl, rfl, wide_mul (nat_abs b1) (den_abs bx) (by decide) (by decide) (by decide), by show 2 ≤ sizeLine; decide, fun t' nt => ?_⟩
      have st := same_upd (o := .tup [.ref D, .int ((b : Int) * (x.den : Int))]) nt
      refine q _ t' D (ts.map (· * k)) (s2'.trans st) (by rw [upd_same, Int.natCast_mul]) (st _ _ e) (by rw [List.length_map]) (fun n hn => ?_) ?_
      · obtain ⟨n', hn', rfl⟩ := List.mem_map.mp hn
        exact Nat.mul_le_mul (tb' n' hn') kd
      · unfold valL
        rw [List.map_map, List.map_map]
        refine List.map_congr_left fun n _ => ?_
        show Rat.divInt ((n * k : Nat) : Int) ((b * x.den : Nat) : Int) = x * Rat.divInt (n : Int) (b : Int)
        have ex : x = Rat.divInt (k : Int) (x.den : Int) := by rw [← hk, Rat.num_divInt_den]
        generalize hd : x.den = d at *
        rw [ex, Rat.divInt_mul_divInt, Int.natCast_mul, Int.natCast_mul, Int.mul_comm (n : Int), Int.mul_comm (b : Int)]
end

end Fb

namespace Fb
open PySem PySem.Spec PyProof.Rows L2
section
variable {P : Program} {w : World} {K : PySem.W.Frag} {mg : Str → Option Value} {base : Heap}
/-! ### book_grain and level_of, of any rows -/
def lec (rs : List Rw) : Nat := (rs.filter fun (r : Rw) => decide (r.word = "less")).length
theorem lec_snoc (rs : List Rw) (r : Rw) : lec (rs ++ [r]) = lec rs + if r.word = "less" then 1 else 0 := by
  unfold lec
  rw [List.filter_append, List.length_append, List.filter_cons]
  congr 1
  by_cases e : r.word = "less"
  · rw [if_pos e, if_pos (by simpa using e)]
    rfl
  · rw [if_neg e, if_neg (by simpa using e)]
    rfl
theorem lec_take (rs : List Rw) (i : Nat) : lec (rs.take i) ≤ lec rs := ((List.take_sublist i rs).filter _).length_le
theorem no_less {i : Nat} {r : Rw} (ok : RwOk i r) (h : r.word ≠ "less") (q : Rat) : Arg.sh q ∉ r.args := by
  cases ok.shape with
  | one => simp
  | can z => simp
  | on z n => simp
  | no n => simp
  | less n qq => exact absurd rfl h
  | both n m => simp
  | either n m => simp
theorem is_less {i : Nat} {r : Rw} (ok : RwOk i r) (h : r.word = "less") : ∃ n q, r = ⟨"less", [.nu n, .sh q]⟩ := by
  cases ok.shape with
  | less n qq => exact ⟨n, qq, rfl⟩
  | one => exact absurd (show ("one" : Str) = "less" from h) (by decide +kernel)
  | can z => exact absurd (show ("can" : Str) = "less" from h) (by decide +kernel)
  | on z n => exact absurd (show ("on" : Str) = "less" from h) (by decide +kernel)
  | no n => exact absurd (show ("not" : Str) = "less" from h) (by decide +kernel)
  | both n m => exact absurd (show ("both" : Str) = "less" from h) (by decide +kernel)
  | either n m => exact absurd (show ("either" : Str) = "less" from h) (by decide +kernel)
theorem rw_args1 {S : ShR} {H : Hp} {vs : List V} {a : Arg} (h : AllAre (IsArg S H) vs [a]) : ∃ v, vs = [v] ∧ IsArg S H v a := by
  match vs, h.1 with
  | [v], _ => exact ⟨v, rfl, h.2 0 v a rfl rfl⟩
theorem rw_args2 {S : ShR} {H : Hp} {vs : List V} {a b : Arg} (h : AllAre (IsArg S H) vs [a, b]) : ∃ v u, vs = [v, u] ∧ IsArg S H v a ∧ IsArg S H u b := by
  match vs, h.1 with
  | [v, u], _ => exact ⟨v, u, rfl, h.2 0 v a rfl rfl, h.2 1 u b rfl rfl⟩
def spBkG (C : Addr) : Sp := fun vs H Q _ => ∃ (bk p : Addr) (xs ys : List V) (rs : List Rw) (v : V) (x : Rat) (ds : List (List Stp)) (A B : Nat), vs = [.ref bk, v, .ref p] ∧ H bk = some (.lst xs) ∧ AllAre (IsRw (SB C) H) xs rs ∧ BkOk rs ∧ IsShare C H v x ∧ H p = some (.lst ys) ∧ AllAre (IsDoor H) ys ds ∧ (∀ s ∈ ds.flatten, 0 < s.ws.sum) ∧ grainF 1 ds.flatten < 2 ^ A ∧ x.den < 2 ^ B ∧ A + B + 100 * lec rs ≤ 8000 ∧
  ∀ g : Nat, 0 < g → grainF 1 ds.flatten ∣ g → x.den ∣ g → (∀ r ∈ rs, ∀ q, Arg.sh q ∈ r.args → q.den ∣ g) → g < 2 ^ (A + B + 100 * lec rs) → Q (.int (g : Nat)) H
theorem ok_p_book_grain (T : Txt K mg) : FnOk P w K mg base CX0 4 T.f_p_book_grain T.d_p_book_grain ["book", "fade", "doors"] (spBkG T.c_Share) := by
  refine T.F_p_book_grain.ok sc_p_book_grain (fun vs H Q E h => ?_) (fun cdv A outer s H vs Q E hr h => ?_)
  · obtain ⟨b, p, xs, ys, rs, v, x, ds, A, B, rfl, _⟩ := h
    rfl
  · obtain ⟨b, p, xs, ys, rs, v, x, ds, N, B, rfl, hb, av, ok, ⟨pf, dx, rfl, hx⟩, hp, aa, pos, gl, xl, le8, q⟩ := h
    refine ⟨_, (pss_cons (ps_set (i := 3) sc_p_book_grain.nd rfl (.inl rfl) (pe_call (ok_p_common_multiple T) (hr.mono (by decide)) (by rfl) T.g_p_common_multiple T.F_p_common_multiple.kp T.b_p_common_multiple .nil pass0 (pa_cons (pe_call (ok_p_grain_of T) (hr.mono (by decide)) (by rfl) T.g_p_grain_of T.F_p_grain_of.kp T.b_p_grain_of .nil pass0 (pa_cons (pv 2) pa_nil)) (pa_cons (pe_fld (pv 1) rfl) pa_nil))))
 (pss_cons (ps_for PassesOwn.never rfl (pi_list (pv 0)) (pg_name (i := 4) sc_p_book_grain.nd rfl (.inl rfl))
  (pss_one (ps_if (pt_cmpR op_eq (pe_ix ix_tup (pv 4) pe_int (fun _ _ => rfl)) pe_str (nomark _))
  (pss_one (ps_set (i := 3) sc_p_book_grain.nd rfl (.inl rfl) (pe_call (ok_p_common_multiple T) (hr.mono (by decide)) (by rfl) T.g_p_common_multiple T.F_p_common_multiple.kp T.b_p_common_multiple .nil pass0 (pa_cons (pv 3) (pa_cons (pe_fld (pe_ix ix_tup (pv 4) pe_int (fun _ _ => rfl)) rfl) pa_nil)))))
  pss_nil)))
 (pss_one (ps_ret (pv 3))))), ?_⟩
    have g0 : 0 < grainF 1 ds.flatten := grainF_pos Nat.one_pos pos
    have up : ∀ {a n : Nat}, a < 2 ^ n → n ≤ 8001 → a < 2 ^ 8001 := fun h hn => Nat.lt_of_lt_of_le h (Nat.pow_le_pow_right (by decide) hn)
    refine ⟨_, rfl, p, ys, ds, rfl, hp, aa, pos, up gl (by omega), ?_⟩
    refine ⟨_, rfl, _, _, _, _, _, rfl, hx, T.cl_Share, T.n_Share_bottom, flds_bottom _, _, x.den, rfl, g0, x.den_pos, up gl (by omega), up xl (by omega), ?_⟩
    refine ⟨_, rfl, b, rfl, ⟨_, SqL.of hb⟩, for_list (K := K) (a := b) (xs := xs) (fun i σ H' => ∃ (y : Option V) (g : Nat), σ = [some (.ref b), some (.ref pf), some (.ref p), some (.int (g : Nat)), y] ∧ H' = H ∧ 0 < g ∧ grainF 1 ds.flatten ∣ g ∧ x.den ∣ g ∧ (∀ r ∈ rs.take i, ∀ q, Arg.sh q ∈ r.args → q.den ∣ g) ∧ g < 2 ^ (N + B + 100 * lec (rs.take i))) ⟨_, _, rfl, rfl, lcmN_pos g0 x.den_pos, (lcmN_dvd _ _).1, (lcmN_dvd _ _).2, (fun r hr => by rw [List.take_zero] at hr; cases hr), ?_⟩ (fun i σ H' _ h => ?_) (fun i u σ H' hi h => ?_) (fun σ H' h => ?_)⟩
    · rw [List.take_zero]
      show lcmN _ _ < 2 ^ (N + B + 100 * 0)
      rw [Nat.mul_zero, Nat.add_zero]
      exact lcmN_lt gl xl
    · obtain ⟨_, _, _, rfl, _⟩ := h
      exact SqL.of hb
    · obtain ⟨y, g, rfl, rfl, gp, d1, d2, d3, gb⟩ := h
      obtain ⟨r, hr', t, vs, rfl, ht, aa'⟩ := av.at hi
      have rok := ok i r hr'
      have et : rs.take (i + 1) = rs.take i ++ [r] := by rw [List.take_add_one, hr']; rfl
      have gt : g < 2 ^ 8001 := up gb (by have := lec_take rs i; omega)
      refine ⟨_, rfl, t, _, _, _, rfl, rfl, .inl (.inl ht), atI_nat (j := 0) rfl, rfl, _, rfl, ?_⟩
      by_cases hl : r.word = "less"
      · rw [decide_eq_true (show V.str r.word = V.str "less" by rw [hl])]
        refine iteT ?_
        obtain ⟨n, qq, rfl⟩ := is_less rok hl
        obtain ⟨v1, v2, rfl, h1, h2⟩ := rw_args2 aa'
        obtain ⟨p2, dx2, rfl, hx2⟩ : IsShare T.c_Share H' v2 qq := h2
        obtain ⟨_, _, ub⟩ : ArgOk i (.sh qq) := rok.args _ (by simp)
        have qd : qq.den < 2 ^ 100 := by
          have := den_abs ub
          omega
        refine ⟨_, rfl, _, rfl, t, _, _, _, rfl, rfl, .inl (.inl ht), atI_nat (j := 2) rfl, p2, _, _, _, _, rfl, hx2, T.cl_Share, T.n_Share_bottom, flds_bottom _, g, qq.den, rfl, gp, qq.den_pos, gt, up qd (by decide), ?_⟩
        refine ⟨_, lcmN g qq.den, rfl, rfl, lcmN_pos gp qq.den_pos, Nat.dvd_trans d1 (lcmN_dvd _ _).1, Nat.dvd_trans d2 (lcmN_dvd _ _).1, fun r hr q hq => ?_, ?_⟩
        · rw [et] at hr
          rcases List.mem_append.mp hr with hr | hr
          · exact Nat.dvd_trans (d3 r hr q hq) (lcmN_dvd _ _).1
          · rw [List.mem_singleton] at hr
            subst hr
            have : q = qq := by
              have hq : Arg.sh q ∈ [Arg.nu n, .sh qq] := hq
              simpa using hq
            rw [this]
            exact (lcmN_dvd _ _).2
        · rw [et, lec_snoc, if_pos rfl]
          have := lcmN_lt gb qd
          rw [show N + B + 100 * (lec (rs.take i) + 1) = N + B + 100 * lec (rs.take i) + 100 by omega]
          exact this
      · rw [str_ne hl]
        refine iteF ⟨_, g, rfl, rfl, gp, d1, d2, fun r hr q hq => ?_, ?_⟩
        · rw [et] at hr
          rcases List.mem_append.mp hr with hr | hr
          · exact d3 r hr q hq
          · rw [List.mem_singleton] at hr
            subst hr
            exact absurd hq (no_less rok hl q)
        · rw [et, lec_snoc, if_neg hl]
          exact gb
    · obtain ⟨y, g, rfl, rfl, gp, d1, d2, d3, gb⟩ := h
      rw [av.1, List.take_length] at d3 gb
      exact ⟨_, rfl, q g gp d1 d2 d3 gb⟩
def IsLv (H : Hp) (M m : Nat) (f : List Rat) (v : V) : Prop := ∃ (t a : Addr) (b : Nat) (ts : List Nat), v = .ref t ∧ H t = some (.tup [.ref a, .int (b : Nat)]) ∧ H a = some (.lst (nts ts)) ∧ ts.length = m ∧ 0 < b ∧ b ∣ M ∧ (∀ n ∈ ts, n ≤ b) ∧ valL ts b = f
theorem IsLv.mono {H H' : Hp} {M m : Nat} {f : List Rat} {v : V} (h : IsLv H M m f v) (s : Same H H') : IsLv H' M m f v := by
  obtain ⟨t, a, b, ts, e, h1, h2, r⟩ := h
  exact ⟨t, a, b, ts, e, s _ _ h1, s _ _ h2, r⟩
theorem IsLv.up {H : Hp} {M M' m : Nat} {f : List Rat} {v : V} (h : IsLv H M m f v) (d : M ∣ M') : IsLv H M' m f v := by
  obtain ⟨t, a, b, ts, e, h1, h2, l, b0, hd, r⟩ := h
  exact ⟨t, a, b, ts, e, h1, h2, l, b0, Nat.dvd_trans hd d, r⟩
theorem IsLv.lev {H : Hp} {M m : Nat} {f : List Rat} {v : V} (h : IsLv H M m f v) (M0 : 0 < M) : Lev m M f := by
  obtain ⟨t, a, b, ts, e, h1, h2, l, b0, hd, hn, ev⟩ := h
  exact Lev.up ⟨ts, l, hn, ev⟩ hd M0
/-- what lowered tells -/
theorem lowd_lv {H : Hp} {M m b b' k : Nat} {ts ts' : List Nat} {f : List Rat} {t a : Addr} (e1 : H t = some (.tup [.ref a, .int (b' : Nat)])) (e2 : H a = some (.lst (nts ts'))) (k0 : 0 < k) (et : ts = ts'.map (k * ·)) (eb : b = k * b') (b0 : 0 < b) (l : ts.length = m) (hn : ∀ n ∈ ts, n ≤ b) (hd : b ∣ M) (ev : valL ts b = f) : IsLv H M m f (.ref t) := by
  have b60 : 0 < b' := Nat.pos_of_ne_zero fun z => by
    rw [eb, z] at b0
    simp at b0
  refine ⟨t, a, b', ts', rfl, e1, e2, by rw [← l, et, List.length_map], b60, Nat.dvd_trans (by rw [eb]; exact Nat.dvd_mul_left _ _) hd, fun n hn' => ?_, ?_⟩
  · have := hn (k * n) (by rw [et]; exact List.mem_map.mpr ⟨n, hn', rfl⟩)
    rw [eb] at this
    exact Nat.le_of_mul_le_mul_left this k0
  · rw [← ev, eb, et]
    unfold valL
    rw [List.map_map]
    refine List.map_congr_left fun n _ => ?_
    show _ = Rat.divInt ((k * n : Nat) : Int) ((k * b' : Nat) : Int)
    rw [Int.natCast_mul, Int.natCast_mul, Rat.divInt_mul_left (by omega)]
def spLevG (C : Addr) : Sp := fun vs H Q _ => ∃ (rv v : V) (p L : Addr) (g M m i : Nat) (ys lvs : List V) (ds : List (List Stp)) (fs : List (List Rat)) (r : Rw) (x : Rat), vs = [rv, v, .ref p, .ref L, .int g] ∧ H p = some (.lst ys) ∧ AllAre (IsDoor H) ys ds ∧ H L = some (.lst lvs) ∧ IsRw (SB C) H rv r ∧ RwOk i r ∧ lvs.length = i ∧ (∀ (j : Nat) u, lvs[j]? = some u → IsLv H M m (fs.getD j []) u) ∧ DsOk m ds ∧ IsShare C H v x ∧ 0 < x ∧ x < 1 ∧ Bd 4000 x ∧ 0 < M ∧ 0 < grainF 1 ds.flatten ∧ M * (grainF 1 ds.flatten * x.den) < 2 ^ 8001 ∧ (∀ q, Arg.sh q ∈ r.args → q.den ∣ M) ∧
  ∀ H' t, Same H H' → IsLv H' (upM (grainF 1 ds.flatten * x.den) M r) m (rowV x m ds fs r) (.ref t) → Q (.ref t) H'
set_option maxHeartbeats 1600000 in
theorem ok_p_level_of (T : Txt K mg) : FnOk P w K mg base CX0 5 T.f_p_level_of T.d_p_level_of ["row", "fade", "doors", "levels", "grain"] (spLevG T.c_Share) := by
  refine T.F_p_level_of.ok sc_p_level_of (fun vs H Q E h => ?_) (fun cdv A outer s H vs Q E hr h => ?_)
  · obtain ⟨rv, v, p, L, g, M, m, i, ys, lvs, ds, fs, r, x, rfl, _⟩ := h
    rfl
  · obtain ⟨rv, v, p, L, g, M, m, i, ys, lvs, ds, fs, r, x, rfl, hp, aa, hL, ⟨tr, vs, rfl, htr, av⟩, rok, li, lv, dok, isx, x0, x1, bx, M0, g0, big, hq, q⟩ := h
    refine ⟨_, (pss_cons (ps_set (i := 5) sc_p_level_of.nd rfl (.inl rfl) (pe_ix ix_tup (pv 0) pe_int (fun _ _ => rfl)))
 (pss_cons (ps_if (pt_cmpR op_eq (pv 5) pe_str (nomark _))
  (pss_one (ps_ret (pe_call (ok_p_even_level T) (hr.mono (by decide)) (by rfl) T.g_p_even_level T.F_p_even_level.kp T.b_p_even_level .nil pass0 (pa_cons pe_int (pa_cons (pe_callB call_len_seq (by rfl) T.z_len (by decide +kernel) (pa_cons (pv 2) pa_nil)) pa_nil)))))
  pss_nil)
 (pss_cons (ps_if (pt_cmpR op_eq (pv 5) pe_str (nomark _))
  (pss_one (ps_ret (pe_tup (pa_cons (pe_lc (own := [("door", 10)]) (g := (gName 10)) (tt := tYes) (by rfl) sc_p_level_of.nd (pi_list (pv 2)) (blkOk_by (own := [("door", 10)]) (N := ["row", "fade", "doors", "levels", "grain", "word", "level", "ours", "theirs", "bottom", "door", "one", "other"]) (sc := defScope s_p_level_of) (by decide +kernel)) (fun _ _ _ _ _ => by exact (pg_name (i := 10) sc_p_level_of.nd rfl (.inl rfl))) (fun _ _ _ _ _ => by exact pts_nil) (fun _ _ _ _ _ => by exact (pe_callTy call_int1 (by rfl) T.z_int (by decide +kernel) (pa_cons (pe_cmp (pc_din (units1 hr.units) (pe_ix (ix_tupK (K := K) rfl) (pv 0) pe_int (fun _ _ => rfl)) (pv 10)) (by with_unfolding_all rfl)) pa_nil)))) (pa_cons pe_int pa_nil)))))
  pss_nil)
 (pss_cons (ps_if (pt_cmpR op_eq (pv 5) pe_str (nomark _))
  (pss_one (ps_ret (pe_call (ok_p_lowered T) (hr.mono (by decide)) (by rfl) T.g_p_lowered T.F_p_lowered.kp T.b_p_lowered .nil pass0 (pa_cons (pe_call (ok_p_faded T) (hr.mono (by decide)) (by rfl) T.g_p_faded T.F_p_faded.kp T.b_p_faded .nil pass0 (pa_cons (pv 1) (pa_cons (pe_call (ok_p_stepped T) (hr.mono (by decide)) (by rfl) T.g_p_stepped T.F_p_stepped.kp T.b_p_stepped .nil pass0 (pa_cons (pv 2) (pa_cons (pe_ix ix_tup (pv 0) pe_int (fun _ _ => rfl)) (pa_cons (pe_ix ix_list (pv 3) (pe_ix ix_tup (pv 0) pe_int (fun _ _ => rfl)) (fun _ _ => rfl)) pa_nil)))) pa_nil))) (pa_cons (pv 4) pa_nil)))))
  pss_nil)
 (pss_cons (ps_set (i := 6) sc_p_level_of.nd rfl (.inl rfl) (pe_ix ix_list (pv 3) (pe_ix ix_tup (pv 0) pe_int (fun _ _ => rfl)) (fun _ _ => rfl)))
 (pss_cons (ps_if (pt_cmpR op_eq (pv 5) pe_str (nomark _))
  (pss_one (ps_ret (pe_call (ok_p_inverse T) (hr.mono (by decide)) (by rfl) T.g_p_inverse T.F_p_inverse.kp T.b_p_inverse .nil pass0 (pa_cons (pv 6) pa_nil))))
  pss_nil)
 (pss_cons (ps_if (pt_cmpR op_eq (pv 5) pe_str (nomark _))
  (pss_one (ps_ret (pe_call (ok_p_lowered T) (hr.mono (by decide)) (by rfl) T.g_p_lowered T.F_p_lowered.kp T.b_p_lowered .nil pass0 (pa_cons (pe_call (ok_p_lessened T) (hr.mono (by decide)) (by rfl) T.g_p_lessened T.F_p_lessened.kp T.b_p_lessened .nil pass0 (pa_cons (pv 6) (pa_cons (pe_ix ix_tup (pv 0) pe_int (fun _ _ => rfl)) pa_nil))) (pa_cons (pv 4) pa_nil)))))
  pss_nil)
 (pss_cons (ps_asg (pe_call (ok_p_same_bottoms T) (hr.mono (by decide)) (by rfl) T.g_p_same_bottoms T.F_p_same_bottoms.kp T.b_p_same_bottoms .nil pass0 (pa_cons (pv 6) (pa_cons (pe_ix ix_list (pv 3) (pe_ix ix_tup (pv 0) pe_int (fun _ _ => rfl)) (fun _ _ => rfl)) pa_nil))) (pg_tup (by rfl) (pgs_cons (pg_name (i := 7) sc_p_level_of.nd rfl (.inl rfl)) (pgs_cons (pg_name (i := 8) sc_p_level_of.nd rfl (.inl rfl)) (pgs_cons (pg_name (i := 9) sc_p_level_of.nd rfl (.inl rfl)) pgs_nil)))))
 (pss_cons (ps_if (pt_cmpR op_eq (pv 5) pe_str (nomark _))
  (pss_one (ps_ret (pe_call (ok_p_lowered T) (hr.mono (by decide)) (by rfl) T.g_p_lowered T.F_p_lowered.kp T.b_p_lowered .nil pass0 (pa_cons (pe_tup (pa_cons (pe_lc (own := [("one", 11), ("other", 12)]) (g := (gTup K 2 (gCons (gName 11) (gCons (gName 12) gNil)))) (tt := tYes) (by rfl) sc_p_level_of.nd (pi_zip (by rfl) T.z_zip (pa_cons (pv 7) (pa_cons (pv 8) pa_nil))) (blkOk_by (own := [("one", 11), ("other", 12)]) (N := ["row", "fade", "doors", "levels", "grain", "word", "level", "ours", "theirs", "bottom", "door", "one", "other"]) (sc := defScope s_p_level_of) (by decide +kernel)) (fun _ _ _ _ _ => by exact (pg_tup (by rfl) (pgs_cons (pg_name (i := 11) sc_p_level_of.nd rfl (.inl rfl)) (pgs_cons (pg_name (i := 12) sc_p_level_of.nd rfl (.inl rfl)) pgs_nil)))) (fun _ _ _ _ _ => by exact pts_nil) (fun _ _ _ _ _ => by exact (pe_callB (call_min2 rfl) (by rfl) T.z_min (by decide +kernel) (pa_cons (pv 11) (pa_cons (pv 12) pa_nil))))) (pa_cons (pv 9) pa_nil))) (pa_cons (pv 4) pa_nil)))))
  pss_nil)
 (pss_one (ps_ret (pe_call (ok_p_lowered T) (hr.mono (by decide)) (by rfl) T.g_p_lowered T.F_p_lowered.kp T.b_p_lowered .nil pass0 (pa_cons (pe_tup (pa_cons (pe_lc (own := [("one", 11), ("other", 12)]) (g := (gTup K 2 (gCons (gName 11) (gCons (gName 12) gNil)))) (tt := tYes) (by rfl) sc_p_level_of.nd (pi_zip (by rfl) T.z_zip (pa_cons (pv 7) (pa_cons (pv 8) pa_nil))) (blkOk_by (own := [("one", 11), ("other", 12)]) (N := ["row", "fade", "doors", "levels", "grain", "word", "level", "ours", "theirs", "bottom", "door", "one", "other"]) (sc := defScope s_p_level_of) (by decide +kernel)) (fun _ _ _ _ _ => by exact (pg_tup (by rfl) (pgs_cons (pg_name (i := 11) sc_p_level_of.nd rfl (.inl rfl)) (pgs_cons (pg_name (i := 12) sc_p_level_of.nd rfl (.inl rfl)) pgs_nil)))) (fun _ _ _ _ _ => by exact pts_nil) (fun _ _ _ _ _ => by exact (pe_callB (call_max2 rfl) (by rfl) T.z_max (by decide +kernel) (pa_cons (pv 11) (pa_cons (pv 12) pa_nil))))) (pa_cons (pv 9) pa_nil))) (pa_cons (pv 4) pa_nil)))))))))))))), ?_⟩
    have m12 := dok.m12
    have ly : ys.length = m := by rw [aa.1]; exact dok.len
    have dp := x.den_pos
    have gx0 : 0 < grainF 1 ds.flatten * x.den := Nat.mul_pos g0 dp
    have M1 : M < 2 ^ 8001 := Nat.lt_of_le_of_lt (Nat.le_mul_of_pos_right M gx0) big
    have sq : SqT K H tr (.str r.word :: vs) := .inl (.inl htr)
    have at_ : ∀ {k : Nat}, k < i → ∃ u, lvs[k]? = some u ∧ IsLv H M m (fs.getD k []) u := fun {k} hk => ⟨_, List.getElem?_eq_getElem (by omega), lv k _ (List.getElem?_eq_getElem (by omega))⟩
    refine ⟨_, rfl, tr, _, _, _, rfl, rfl, sq, atI_nat (j := 0) rfl, ?_⟩
    cases rok.shape with
    | one =>
      refine ⟨_, rfl, rfl, _, rfl, iteT ?_⟩
      exact ⟨_, rfl, p, _, rfl, .inl (SqL.of hp), 1, m, by rw [ly]; rfl, by omega, fun H' t a s' e f => q H' t s' ⟨t, a, 1, _, rfl, e, f, List.length_replicate, Nat.one_pos, Nat.one_dvd _, fun n hn => Nat.le_of_eq (List.mem_replicate.mp hn).2, valL_one m⟩⟩
    | can z =>
      obtain ⟨v1, rfl, h1⟩ := rw_args1 av
      obtain rfl : v1 = .str z := h1
      refine ⟨_, rfl, rfl, _, rfl, iteF ⟨_, rfl, rfl, _, rfl, iteT ?_⟩⟩
      refine ⟨_, rfl, p, rfl, ⟨_, SqL.of hp⟩, fun D nD => lc_allW (walk_list (K := K) (a := p) (xs := ys)) (fun j y _ => ∃ d, ds[j]? = some d ∧ y = .int ((if (selD z d).isSome then 1 else 0 : Nat) : Int)) (fun _ _ _ _ _ h => h) nD (fun H' s => SqL.of (s _ _ hp)) (by omega) (fun j u H2 H3 kk hj s2 eD y hk => ?_) (fun H2 ts' s2 e l r' => ?_)⟩
      · obtain ⟨rfl, hv⟩ := y
        obtain ⟨d, hd, pd, kvs, rfl, hpd, ak⟩ := aa.at hv
        have hpd3 := hid_same _ _ (s2 _ _ hpd)
        have ak3 : AreKw H3 kvs d := ak.imp fun _ _ e => hid_same _ _ (s2 _ _ e)
        have sq3 : SqT K H3 tr [.str "can", .str z] := .inl (.inl (hid_same _ _ (s2 _ _ htr)))
        refine ⟨rfl, _, rfl, tr, _, _, _, rfl, rfl, sq3, atI_nat (j := 1) rfl, _, rfl, pd, _, rfl, DGet.k (k := .inr z) hpd3, .inr ⟨_, rfl, hk _ _ (Same.refl _) ⟨d, hd, ?_⟩⟩⟩
        rcases kw_val z ak3 with ⟨e1, e2⟩ | ⟨st, wa, e1, _, _, e2, _⟩
        · rw [e1, e2]
          rfl
        · rw [e1, e2]
          rfl
      · have ey : ts' = nts (ds.map fun d => if (selD z d).isSome then 1 else 0) := by
          refine List.ext_getElem? fun j => ?_
          by_cases hj : j < ts'.length
          · obtain ⟨d, hd, hy⟩ := r' j _ (List.getElem?_eq_getElem hj)
            rw [List.getElem?_eq_getElem hj, hy]
            unfold nts
            rw [List.map_map, List.getElem?_map, hd]
            rfl
          · rw [List.getElem?_eq_none (by omega), List.getElem?_eq_none (by rw [nts_len, List.length_map, dok.len]; omega)]
        rw [ey] at e
        refine ⟨by show 2 ≤ sizeLine; decide, fun t nt => ?_⟩
        have st := same_upd (o := .tup [.ref D, .int 1]) nt
        refine q _ t ((s2.trans hid_same).trans st) ⟨t, D, 1, _, rfl, upd_same, st _ _ e, by rw [List.length_map, dok.len], Nat.one_pos, Nat.one_dvd _, fun n hn => ?_, ?_⟩
        · obtain ⟨d, _, rfl⟩ := List.mem_map.mp hn
          split <;> omega
        · show valL _ 1 = ds.map (canV z)
          unfold valL
          rw [List.map_map]
          refine List.map_congr_left fun d _ => ?_
          show Rat.divInt ((if (selD z d).isSome then 1 else 0 : Nat) : Int) ((1 : Nat) : Int) = if (selD z d).isSome then 1 else 0
          split
          · rfl
          · rfl
    | on z k =>
      obtain ⟨v1, v2, rfl, h1, h2⟩ := rw_args2 av
      obtain rfl : v1 = .str z := h1
      obtain rfl : v2 = .int (k : Int) := h2
      obtain ⟨u, hu, t, a, b, ts, rfl, ht, ha, lt, b0, bd, tb', ev⟩ := at_ (rok.args (.nu k) (by simp))
      have bM : b ≤ M := Nat.le_of_dvd M0 bd
      have bgx : b * grainF 1 ds.flatten * x.den < 2 ^ 8001 := by
        rw [Nat.mul_assoc]
        exact Nat.lt_of_le_of_lt (Nat.mul_le_mul_right _ bM) big
      have b1 : b < 2 ^ 8001 := Nat.lt_of_le_of_lt bM M1
      have g1 : grainF 1 ds.flatten < 2 ^ 8001 := Nat.lt_of_le_of_lt (by rw [Nat.mul_comm b, Nat.mul_assoc]; exact Nat.le_mul_of_pos_right _ (Nat.mul_pos b0 dp)) bgx
      refine ⟨_, rfl, rfl, _, rfl, iteF ⟨_, rfl, rfl, _, rfl, iteF ⟨_, rfl, rfl, _, rfl, iteT ?_⟩⟩⟩
      refine ⟨_, rfl, _, rfl, _, rfl, tr, _, _, _, rfl, rfl, sq, atI_nat (j := 1) rfl, _, rfl, _, rfl, tr, _, _, _, rfl, rfl, sq, atI_nat (j := 2) rfl, L, _, _, _, rfl, rfl, SqL.of hL, atI_nat hu, ?_⟩
      refine ⟨p, t, a, z, ys, ds, ts, b, rfl, hp, aa, ht, ha, by rw [lt]; exact dok, b0, b1, tb', g1, fun H1 t1 a1 W us s1 e1 f1 W0 Wd lu ub vu => ?_⟩
      have Wle : b * W ≤ b * grainF 1 ds.flatten := Nat.mul_le_mul_left b (Nat.le_of_dvd g0 Wd)
      have W16 : b * W < 2 ^ 16002 := by
        refine Nat.lt_of_le_of_lt Wle ?_
        rw [show 16002 = 8001 + 8001 from rfl, Nat.pow_add]
        exact Nat.mul_lt_mul'' b1 g1
      refine ⟨v, x, t1, a1, us, b * W, rfl, isx.mono s1, x0, x1, bx, e1, f1, by omega, Nat.mul_pos b0 W0, W16, ub, fun H2 t2 a2 us2 s2 e2 f2 lu2 ub2 vu2 => ?_⟩
      refine ⟨_, rfl, t2, a2, b * W * x.den, g, us2, rfl, e2, f2, Nat.mul_pos (Nat.mul_pos b0 W0) dp, Nat.lt_of_le_of_lt (Nat.mul_le_mul_right _ Wle) bgx, by omega, fun H6 t6 a6 b6 ts6 k6 s6 e6 f6 k0 eu eb _ => ?_⟩
      refine q H6 t6 (s1.trans (s2.trans s6)) (lowd_lv e6 f6 k0 eu eb (Nat.mul_pos (Nat.mul_pos b0 W0) dp) (by omega) ub2 ?_ ?_)
      · show _ ∣ M * (grainF 1 ds.flatten * x.den)
        rw [← Nat.mul_assoc]
        exact Nat.mul_dvd_mul (Nat.mul_dvd_mul bd Wd) (Nat.dvd_refl _)
      · rw [vu2, vu, ev, List.map_map]
        rfl
    | no k =>
      obtain ⟨v1, rfl, h1⟩ := rw_args1 av
      obtain rfl : v1 = .int (k : Int) := h1
      obtain ⟨u, hu, t, a, b, ts, rfl, ht, ha, lt, b0, bd, tb', ev⟩ := at_ (rok.args (.nu k) (by simp))
      refine ⟨_, rfl, rfl, _, rfl, iteF ⟨_, rfl, rfl, _, rfl, iteF ⟨_, rfl, rfl, _, rfl, iteF ?_⟩⟩⟩
      refine ⟨_, rfl, _, rfl, tr, _, _, _, rfl, rfl, sq, atI_nat (j := 1) rfl, L, _, _, _, rfl, rfl, SqL.of hL, atI_nat hu, ?_⟩
      refine ⟨_, rfl, rfl, _, rfl, iteT ?_⟩
      refine ⟨_, rfl, t, a, ts, b, rfl, ht, ha, by omega, tb', fun H' t' a' s' e f => q H' t' s' ⟨t', a', b, _, rfl, e, f, by rw [List.length_map, lt], b0, bd, fun n hn => ?_, ?_⟩⟩
      · obtain ⟨n', _, rfl⟩ := List.mem_map.mp hn
        exact Nat.sub_le _ _
      · rw [not_val b0 tb', ev]
        rfl
    | less k qq =>
      obtain ⟨v1, v2, rfl, h1, h2⟩ := rw_args2 av
      obtain rfl : v1 = .int (k : Int) := h1
      have h2 : IsShare T.c_Share H v2 qq := h2
      obtain ⟨o1, o2, ub⟩ : ArgOk i (.sh qq) := rok.args _ (by simp)
      have qM : qq.den ∣ M := hq qq (by simp)
      obtain ⟨kn, hkn⟩ : ∃ kn : Nat, qq.num = (kn : Int) := ⟨qq.num.toNat, by omega⟩
      obtain ⟨u, hu, t, a, b, ts, rfl, ht, ha, lt, b0, bd, tb', ev⟩ := at_ (rok.args (.nu k) (by simp))
      have b1 : b < 2 ^ 8001 := Nat.lt_of_le_of_lt (Nat.le_of_dvd M0 bd) M1
      have qd : qq.den < 2 ^ 8001 := Nat.lt_of_le_of_lt (Nat.le_of_dvd M0 qM) M1
      have BM := lcmN_of bd qM
      obtain ⟨Bd1, Bd2⟩ := lcmN_dvd b qq.den
      have B0 := lcmN_pos b0 qq.den_pos
      have B1 : lcmN b qq.den < 2 ^ 8001 := Nat.lt_of_le_of_lt (Nat.le_of_dvd M0 BM) M1
      refine ⟨_, rfl, rfl, _, rfl, iteF ⟨_, rfl, rfl, _, rfl, iteF ⟨_, rfl, rfl, _, rfl, iteF ?_⟩⟩⟩
      refine ⟨_, rfl, _, rfl, tr, _, _, _, rfl, rfl, sq, atI_nat (j := 1) rfl, L, _, _, _, rfl, rfl, SqL.of hL, atI_nat hu, ?_⟩
      refine ⟨_, rfl, rfl, _, rfl, iteF ⟨_, rfl, rfl, _, rfl, iteT ?_⟩⟩
      refine ⟨_, rfl, _, rfl, tr, _, _, _, rfl, rfl, sq, atI_nat (j := 2) rfl, v2, qq, kn, t, a, ts, b, rfl, h2, hkn, by omega, qd, ht, ha, by omega, b0, b1, tb', fun H1 t1 a1 s1 e1 f1 => ?_⟩
      generalize lcmN b qq.den = B at *
      have eB1 : b * (B / b) = B := Nat.mul_div_cancel' Bd1
      have eB2 : qq.den * (B / qq.den) = B := Nat.mul_div_cancel' Bd2
      have kb0 : 0 < B / b := Nat.div_pos (Nat.le_of_dvd B0 Bd1) b0
      have kd0 : 0 < B / qq.den := Nat.div_pos (Nat.le_of_dvd B0 Bd2) qq.den_pos
      refine ⟨_, rfl, t1, a1, B, g, _, rfl, e1, f1, B0, B1, by rw [List.length_map]; omega, fun H6 t6 a6 b6 ts6 k6 s6 e6 f6 k0 eu eb _ => ?_⟩
      refine q H6 t6 (s1.trans s6) (lowd_lv e6 f6 k0 eu eb B0 (by rw [List.length_map, lt]) (fun n hn => ?_) BM ?_)
      · obtain ⟨n', hn', rfl⟩ := List.mem_map.mp hn
        refine Nat.le_trans (Nat.sub_le _ _) ?_
        have := Nat.mul_le_mul_right (B / b) (tb' n' hn')
        rwa [eB1] at this
      · have e3 : qq = Rat.divInt ((kn * (B / qq.den) : Nat) : Int) (B : Int) := by
          have h := Rat.divInt_mul_right (n := (kn : Int)) (d := (qq.den : Int)) (a := ((B / qq.den : Nat) : Int)) (by omega)
          rw [← Int.natCast_mul, ← Int.natCast_mul, eB2] at h
          rw [h, ← hkn, Rat.num_divInt_den]
        have e4 := les_val (ts := ts.map (· * (B / b))) B0 e3
        rw [List.map_map] at e4
        refine Eq.trans e4 ?_
        have e5 : valL (ts.map (· * (B / b))) B = valL ts b := by
          have := valL_scale (ts := ts) (b := b) kb0
          rwa [eB1] at this
        rw [e5, ev]
        rfl
    | both k j =>
      obtain ⟨v1, v2, rfl, h1, h2⟩ := rw_args2 av
      obtain rfl : v1 = .int (k : Int) := h1
      obtain rfl : v2 = .int (j : Int) := h2
      obtain ⟨u, hu, t, a, b, ts, rfl, ht, ha, lt, b0, bd, tb', ev⟩ := at_ (rok.args (.nu k) (by simp))
      obtain ⟨u', hu', t', a', b', ts', rfl, ht', ha', lt', b0', bd', tb'', ev'⟩ := at_ (rok.args (.nu j) (by simp))
      have b1 : b < 2 ^ 8001 := Nat.lt_of_le_of_lt (Nat.le_of_dvd M0 bd) M1
      have b1' : b' < 2 ^ 8001 := Nat.lt_of_le_of_lt (Nat.le_of_dvd M0 bd') M1
      have BM := lcmN_of bd bd'
      obtain ⟨Bd1, Bd2⟩ := lcmN_dvd b b'
      have B0 := lcmN_pos b0 b0'
      have B1 : lcmN b b' < 2 ^ 8001 := Nat.lt_of_le_of_lt (Nat.le_of_dvd M0 BM) M1
      refine ⟨_, rfl, rfl, _, rfl, iteF ⟨_, rfl, rfl, _, rfl, iteF ⟨_, rfl, rfl, _, rfl, iteF ?_⟩⟩⟩
      refine ⟨_, rfl, _, rfl, tr, _, _, _, rfl, rfl, sq, atI_nat (j := 1) rfl, L, _, _, _, rfl, rfl, SqL.of hL, atI_nat hu, ?_⟩
      refine ⟨_, rfl, rfl, _, rfl, iteF ⟨_, rfl, rfl, _, rfl, iteF ?_⟩⟩
      refine ⟨_, rfl, _, rfl, _, rfl, tr, _, _, _, rfl, rfl, sq, atI_nat (j := 2) rfl, L, _, _, _, rfl, rfl, SqL.of hL, atI_nat hu', t, t', a, a', b, b', ts, ts', rfl, ht, ht', ha, ha', by omega, by omega, b0, b0', b1, b1', tb', tb'', fun H1 t1 c1 c2 s1 e1 f1 f2 => ?_⟩
      generalize lcmN b b' = B at *
      refine ⟨t1, _, rfl, .inl (.inl e1), rfl, _, _, rfl, _, _, rfl, _, _, rfl, rfl, ?_⟩
      have eB1 : b * (B / b) = B := Nat.mul_div_cancel' Bd1
      have eB2 : b' * (B / b') = B := Nat.mul_div_cancel' Bd2
      have kb0 : 0 < B / b := Nat.div_pos (Nat.le_of_dvd B0 Bd1) b0
      have kd0 : 0 < B / b' := Nat.div_pos (Nat.le_of_dvd B0 Bd2) b0'
      refine ⟨_, rfl, rfl, _, rfl, iteT ?_⟩
      obtain ⟨us, hus⟩ : ∃ us, us = ts.map (· * (B / b)) := ⟨_, rfl⟩
      obtain ⟨us', hus'⟩ : ∃ us, us = ts'.map (· * (B / b')) := ⟨_, rfl⟩
      have lu : us.length = m := by rw [hus, List.length_map, lt]
      have lu' : us'.length = m := by rw [hus', List.length_map, lt']
      have vu : valL us B = fs.getD k [] := by
        have := valL_scale (ts := ts) (b := b) kb0
        rw [eB1] at this
        rw [hus, this, ev]
      have vu' : valL us' B = fs.getD j [] := by
        have := valL_scale (ts := ts') (b := b') kd0
        rw [eB2] at this
        rw [hus', this, ev']
      have ub1 : ∀ n ∈ us, n ≤ B := fun n hn => by
        rw [hus] at hn
        obtain ⟨n', hn', rfl⟩ := List.mem_map.mp hn
        have := Nat.mul_le_mul_right (B / b) (tb' n' hn')
        rwa [eB1] at this
      have ub2 : ∀ n ∈ us', n ≤ B := fun n hn => by
        rw [hus'] at hn
        obtain ⟨n', hn', rfl⟩ := List.mem_map.mp hn
        have := Nat.mul_le_mul_right (B / b') (tb'' n' hn')
        rwa [eB2] at this
      rw [← hus] at f1
      rw [← hus'] at f2
      refine ⟨_, rfl, _, rfl, c1, c2, _, _, rfl, SqL.of f1, SqL.of f2, fun D nD => lc_allW (walk_zip (K := K) (a := c1) (b := c2) (xs := nts us) (ys := nts us') (n := m) (by rw [nts_len, nts_len]; omega)) (fun i y _ => ∃ n n' : Nat, us[i]? = some n ∧ us'[i]? = some n' ∧ y = .int ((min n n' : Nat) : Int)) (fun _ _ _ _ _ h => h) nD (fun H' s => ⟨SqL.of (s _ _ f1), SqL.of (s _ _ f2)⟩) (by omega) (fun i w H2 H3 kk hi s2 eD y hk => ?_) (fun H2 ys2 s2 e l r' => ?_)⟩
      · obtain ⟨t2, xa, xb, rfl, nt2, rfl, exa, exb⟩ := y
        obtain ⟨n, hn, rfl⟩ := nts_at exa
        obtain ⟨n', hn', rfl⟩ := nts_at exb
        refine ⟨t2, _, rfl, .inl (.inl upd_same), rfl, _, _, rfl, _, _, rfl, rfl, rfl, ?_⟩
        refine ⟨_, rfl, _, rfl, _, _, rfl, hk _ _ (same_upd nt2) ⟨n, n', hn, hn', ?_⟩⟩
        congr 1
        split <;> omega
      · have ey : ys2 = nts (List.zipWith min us us') := by
          refine List.ext_getElem? fun i => ?_
          by_cases hi : i < ys2.length
          · obtain ⟨n, n', hn, hn', hy⟩ := r' i _ (List.getElem?_eq_getElem hi)
            rw [List.getElem?_eq_getElem hi, hy]
            unfold nts
            rw [List.getElem?_map, List.getElem?_zipWith, hn, hn']
            rfl
          · rw [List.getElem?_eq_none (by omega), List.getElem?_eq_none (by rw [nts_len, List.length_zipWith]; omega)]
        rw [ey] at e
        refine ⟨_, rfl, by show 2 ≤ sizeLine; decide, fun t2 nt2 => ?_⟩
        have st := same_upd (o := .tup [.ref D, .int (B : Nat)]) nt2
        refine ⟨_, rfl, t2, D, B, g, _, rfl, upd_same, st _ _ e, B0, B1, by rw [List.length_zipWith]; omega, fun H6 t6 a6 b6 ts6 k6 s6 e6 f6 k0 eu eb _ => ?_⟩
        refine q H6 t6 (s1.trans ((s2.trans hid_same).trans (st.trans s6))) (lowd_lv e6 f6 k0 eu eb B0 (by rw [List.length_zipWith]; omega) (fun n hn => ?_) BM ?_)
        · obtain ⟨i, hi⟩ := List.mem_iff_getElem?.mp hn
          rw [List.getElem?_zipWith] at hi
          cases h1 : us[i]? with
          | none => rw [h1] at hi; cases hi
          | some n1 =>
            cases h2 : us'[i]? with
            | none => rw [h1, h2] at hi; cases hi
            | some n2 =>
              rw [h1, h2] at hi
              cases hi
              have := ub1 n1 (List.mem_of_getElem? h1)
              have := ub2 n2 (List.mem_of_getElem? h2)
              omega
        · refine Eq.trans (zip_val (f := minR) (fun a c => minR_same B0) us us') ?_
          rw [vu, vu']
          rfl
    | either k j =>
      obtain ⟨v1, v2, rfl, h1, h2⟩ := rw_args2 av
      obtain rfl : v1 = .int (k : Int) := h1
      obtain rfl : v2 = .int (j : Int) := h2
      obtain ⟨u, hu, t, a, b, ts, rfl, ht, ha, lt, b0, bd, tb', ev⟩ := at_ (rok.args (.nu k) (by simp))
      obtain ⟨u', hu', t', a', b', ts', rfl, ht', ha', lt', b0', bd', tb'', ev'⟩ := at_ (rok.args (.nu j) (by simp))
      have b1 : b < 2 ^ 8001 := Nat.lt_of_le_of_lt (Nat.le_of_dvd M0 bd) M1
      have b1' : b' < 2 ^ 8001 := Nat.lt_of_le_of_lt (Nat.le_of_dvd M0 bd') M1
      have BM := lcmN_of bd bd'
      obtain ⟨Bd1, Bd2⟩ := lcmN_dvd b b'
      have B0 := lcmN_pos b0 b0'
      have B1 : lcmN b b' < 2 ^ 8001 := Nat.lt_of_le_of_lt (Nat.le_of_dvd M0 BM) M1
      refine ⟨_, rfl, rfl, _, rfl, iteF ⟨_, rfl, rfl, _, rfl, iteF ⟨_, rfl, rfl, _, rfl, iteF ?_⟩⟩⟩
      refine ⟨_, rfl, _, rfl, tr, _, _, _, rfl, rfl, sq, atI_nat (j := 1) rfl, L, _, _, _, rfl, rfl, SqL.of hL, atI_nat hu, ?_⟩
      refine ⟨_, rfl, rfl, _, rfl, iteF ⟨_, rfl, rfl, _, rfl, iteF ?_⟩⟩
      refine ⟨_, rfl, _, rfl, _, rfl, tr, _, _, _, rfl, rfl, sq, atI_nat (j := 2) rfl, L, _, _, _, rfl, rfl, SqL.of hL, atI_nat hu', t, t', a, a', b, b', ts, ts', rfl, ht, ht', ha, ha', by omega, by omega, b0, b0', b1, b1', tb', tb'', fun H1 t1 c1 c2 s1 e1 f1 f2 => ?_⟩
      generalize lcmN b b' = B at *
      refine ⟨t1, _, rfl, .inl (.inl e1), rfl, _, _, rfl, _, _, rfl, _, _, rfl, rfl, ?_⟩
      have eB1 : b * (B / b) = B := Nat.mul_div_cancel' Bd1
      have eB2 : b' * (B / b') = B := Nat.mul_div_cancel' Bd2
      have kb0 : 0 < B / b := Nat.div_pos (Nat.le_of_dvd B0 Bd1) b0
      have kd0 : 0 < B / b' := Nat.div_pos (Nat.le_of_dvd B0 Bd2) b0'
      refine ⟨_, rfl, rfl, _, rfl, iteF ?_⟩
      obtain ⟨us, hus⟩ : ∃ us, us = ts.map (· * (B / b)) := ⟨_, rfl⟩
      obtain ⟨us', hus'⟩ : ∃ us, us = ts'.map (· * (B / b')) := ⟨_, rfl⟩
      have lu : us.length = m := by rw [hus, List.length_map, lt]
      have lu' : us'.length = m := by rw [hus', List.length_map, lt']
      have vu : valL us B = fs.getD k [] := by
        have := valL_scale (ts := ts) (b := b) kb0
        rw [eB1] at this
        rw [hus, this, ev]
      have vu' : valL us' B = fs.getD j [] := by
        have := valL_scale (ts := ts') (b := b') kd0
        rw [eB2] at this
        rw [hus', this, ev']
      have ub1 : ∀ n ∈ us, n ≤ B := fun n hn => by
        rw [hus] at hn
        obtain ⟨n', hn', rfl⟩ := List.mem_map.mp hn
        have := Nat.mul_le_mul_right (B / b) (tb' n' hn')
        rwa [eB1] at this
      have ub2 : ∀ n ∈ us', n ≤ B := fun n hn => by
        rw [hus'] at hn
        obtain ⟨n', hn', rfl⟩ := List.mem_map.mp hn
        have := Nat.mul_le_mul_right (B / b') (tb'' n' hn')
        rwa [eB2] at this
      rw [← hus] at f1
      rw [← hus'] at f2
      refine ⟨_, rfl, _, rfl, c1, c2, _, _, rfl, SqL.of f1, SqL.of f2, fun D nD => lc_allW (walk_zip (K := K) (a := c1) (b := c2) (xs := nts us) (ys := nts us') (n := m) (by rw [nts_len, nts_len]; omega)) (fun i y _ => ∃ n n' : Nat, us[i]? = some n ∧ us'[i]? = some n' ∧ y = .int ((max n n' : Nat) : Int)) (fun _ _ _ _ _ h => h) nD (fun H' s => ⟨SqL.of (s _ _ f1), SqL.of (s _ _ f2)⟩) (by omega) (fun i w H2 H3 kk hi s2 eD y hk => ?_) (fun H2 ys2 s2 e l r' => ?_)⟩
      · obtain ⟨t2, xa, xb, rfl, nt2, rfl, exa, exb⟩ := y
        obtain ⟨n, hn, rfl⟩ := nts_at exa
        obtain ⟨n', hn', rfl⟩ := nts_at exb
        refine ⟨t2, _, rfl, .inl (.inl upd_same), rfl, _, _, rfl, _, _, rfl, rfl, rfl, ?_⟩
        refine ⟨_, rfl, _, rfl, _, _, rfl, hk _ _ (same_upd nt2) ⟨n, n', hn, hn', ?_⟩⟩
        congr 1
        split <;> omega
      · have ey : ys2 = nts (List.zipWith max us us') := by
          refine List.ext_getElem? fun i => ?_
          by_cases hi : i < ys2.length
          · obtain ⟨n, n', hn, hn', hy⟩ := r' i _ (List.getElem?_eq_getElem hi)
            rw [List.getElem?_eq_getElem hi, hy]
            unfold nts
            rw [List.getElem?_map, List.getElem?_zipWith, hn, hn']
            rfl
          · rw [List.getElem?_eq_none (by omega), List.getElem?_eq_none (by rw [nts_len, List.length_zipWith]; omega)]
        rw [ey] at e
        refine ⟨_, rfl, by show 2 ≤ sizeLine; decide, fun t2 nt2 => ?_⟩
        have st := same_upd (o := .tup [.ref D, .int (B : Nat)]) nt2
        refine ⟨_, rfl, t2, D, B, g, _, rfl, upd_same, st _ _ e, B0, B1, by rw [List.length_zipWith]; omega, fun H6 t6 a6 b6 ts6 k6 s6 e6 f6 k0 eu eb _ => ?_⟩
        refine q H6 t6 (s1.trans ((s2.trans hid_same).trans (st.trans s6))) (lowd_lv e6 f6 k0 eu eb B0 (by rw [List.length_zipWith]; omega) (fun n hn => ?_) BM ?_)
        · obtain ⟨i, hi⟩ := List.mem_iff_getElem?.mp hn
          rw [List.getElem?_zipWith] at hi
          cases h1 : us[i]? with
          | none => rw [h1] at hi; cases hi
          | some n1 =>
            cases h2 : us'[i]? with
            | none => rw [h1, h2] at hi; cases hi
            | some n2 =>
              rw [h1, h2] at hi
              cases hi
              have := ub1 n1 (List.mem_of_getElem? h1)
              have := ub2 n2 (List.mem_of_getElem? h2)
              omega
        · refine Eq.trans (zip_val (f := maxR) (fun a c => maxR_same B0) us us') ?_
          rw [vu, vu']
          rfl
end

end Fb

namespace Fb
open PySem PySem.Spec PyProof.Rows L2
section
variable {P : Program} {w : World} {K : PySem.W.Frag} {mg : Str → Option Value} {base : Heap}
/-! ### worths of any book -/
theorem atI_m1 {ws : List V} {n : Nat} {v : V} (l : ws.length = n + 1) (h : ws[n]? = some v) : atI ws (-1) = some v := by
  rcases List.eq_nil_or_concat ws with rfl | ⟨w0, u, rfl⟩
  · cases l
  · rw [List.concat_eq_append] at *
    rw [List.length_append] at l
    have l0 : w0.length = n := by simpa using l
    rw [← l0, List.getElem?_concat_length] at h
    rw [atI_last]
    exact h
theorem onc_take (rs : List Rw) (i : Nat) : onc (rs.take i) ≤ onc rs := ((List.take_sublist i rs).filter _).length_le
theorem IsLv.put {H : Hp} {L : Addr} {lvs o : List V} {M m : Nat} {f : List Rat} {v : V} (hL : H L = some (.lst lvs)) (all : ∀ (k : Nat) u, lvs[k]? = some u → ∃ q, u = V.ref q) (m1 : 1 ≤ m) (h : IsLv H M m f v) : IsLv (upd H L (.lst o)) M m f v := by
  obtain ⟨t, a, b, ts, e, h1, h2, lt, r⟩ := h
  refine ⟨t, a, b, ts, e, ?_, ?_, lt, r⟩
  · rw [upd_ne fun z => by rw [z, hL] at h1; cases h1]
    exact h1
  · rw [upd_ne fun z => by
      rw [z, hL] at h2
      have e2 : lvs = nts ts := by
        cases h2
        rfl
      have hi : 0 < lvs.length := by rw [e2, nts_len]; omega
      obtain ⟨q, eq⟩ := all 0 _ (List.getElem?_eq_getElem hi)
      have h3 : lvs[0]? = some (.ref q) := by rw [List.getElem?_eq_getElem hi, eq]
      rw [e2] at h3
      obtain ⟨n, _, en⟩ := nts_at h3
      cases en]
    exact h2
structure BkBd (m : Nat) (out : List Stp) (x : Rat) (rs : List Rw) (A B : Nat) : Prop where
  gl : grainF 1 out < 2 ^ A
  xl : x.den < 2 ^ B
  le : (A + B + 100 * lec rs) + (A + B) * (onc rs + 1) ≤ 8000
def spWorths (C S : Addr) : Sp := fun vs H Q _ => ∃ (bk : Addr) (v mv : V) (xs : List V) (rs : List Rw) (x : Rat) (m A B : Nat) (out : List Stp), vs = [.ref bk, v, mv] ∧ H bk = some (.lst xs) ∧ AllAre (IsRw (SB S) H) xs rs ∧ BkOk rs ∧ rs ≠ [] ∧ rs.length ≤ 300 ∧ IsShare S H v x ∧ 0 < x ∧ x < 1 ∧ Bd 4000 x ∧ IsMach C H mv m out ∧ MOk m out ∧ BkBd m out x rs A B ∧
  ∀ H' p ws, Same H H' → H p = none → H' p = some (.lst ws) → ws.length = rs.length → (∀ (i : Nat) u, ws[i]? = some u → ∃ a vs, u = .ref a ∧ H a = none ∧ H' a = some (.lst vs) ∧ AllAre (IsShare S H') vs ((vals x m (doorsL m out) rs).getD i [])) → Q (.ref p) H'
set_option maxHeartbeats 1600000 in
theorem ok_p_worths (T : Txt K mg) (hw : T.prm = w.params) : FnOk P w K mg base CX0 7 T.f_p_worths T.d_p_worths ["book", "fade", "machine"] (spWorths T.c_Machine T.c_Share) := by
  refine T.F_p_worths.ok sc_p_worths (fun vs H Q E h => ?_) (fun cdv A outer s H vs Q E hr h => ?_)
  · obtain ⟨bk, v, mv, xs, rs, x, m, A, B, out, rfl, _⟩ := h
    rfl
  · obtain ⟨bk, v, mv, xs, rs, x, m, N, B, out, rfl, hb, av, ok, ne, r3, isx, x0, x1, bx, im, mok, bd, q⟩ := h
    refine ⟨_, (pss_cons (ps_expr (pe_call (ok_p_check_fade T) (hr.mono (by decide)) (by rfl) T.g_p_check_fade T.F_p_check_fade.kp T.b_p_check_fade .nil pass0 (pa_cons (pv 1) pa_nil)))
 (pss_cons (ps_expr (pe_call (ok_p_check_book T hw) (hr.mono (by decide)) (by rfl) T.g_p_check_book T.F_p_check_book.kp T.b_p_check_book .nil pass0 (pa_cons (pv 0) pa_nil)))
 (pss_cons (ps_set (i := 3) sc_p_worths.nd rfl (.inl rfl) (pe_call (ok_p_doors_of T) (hr.mono (by decide)) (by rfl) T.g_p_doors_of T.F_p_doors_of.kp T.b_p_doors_of .nil pass0 (pa_cons (pv 2) pa_nil)))
 (pss_cons (ps_set (i := 4) sc_p_worths.nd rfl (.inr rfl) (pe_call (ok_p_book_grain T) (hr.mono (by decide)) (by rfl) T.g_p_book_grain T.F_p_book_grain.kp T.b_p_book_grain .nil pass0 (pa_cons (pv 0) (pa_cons (pv 1) (pa_cons (pv 3) pa_nil)))))
 (pss_cons (ps_set (i := 5) sc_p_worths.nd rfl (.inl rfl) (pe_lst pa_nil))
 (pss_cons (ps_for PassesOwn.never rfl (pi_list (pv 0)) (pg_name (i := 6) sc_p_worths.nd rfl (.inl rfl))
  (pss_one (ps_expr (pe_bm PySem.F.plainAttrs_list PySem.F.slot_list_append PySem.F.type_list_append mt_append (pv 5) (pa_cons (pe_call (ok_p_level_of T) (hr.mono (by decide)) (by rfl) T.g_p_level_of T.F_p_level_of.kp T.b_p_level_of .nil pass0 (pa_cons (pv 6) (pa_cons (pv 1) (pa_cons (pv 3) (pa_cons (pv 5) (pa_cons (pv 4) pa_nil)))))) pa_nil)))))
 (pss_one (ps_ret (pe_lc (own := [("level", 7)]) (g := (gName 7)) (tt := tYes) (by rfl) sc_p_worths.nd (pi_list (pv 5)) (blkOk_by (own := [("level", 7)]) (N := ["book", "fade", "machine", "doors", "grain", "levels", "row", "level"]) (sc := defScope s_p_worths) (by decide +kernel)) (fun _ _ _ _ _ => by exact (pg_name (i := 7) sc_p_worths.nd rfl (.inl rfl))) (fun _ _ _ _ _ => by exact pts_nil) (fun _ _ _ _ _ => by exact (pe_call (ok_p_shares_at T) (hr.mono (by decide)) (by rfl) T.g_p_shares_at T.F_p_shares_at.kp T.b_p_shares_at .nil pass0 (pa_cons (pv 7) (pa_cons (pv 4) pa_nil))))))))))))), ?_⟩
    have m1 := mok.ok.m1
    have m12 := mok.ok.m12
    have dp := x.den_pos
    have dok := doors_ok mok
    have gdv : grainF 1 (doorsL m out).flatten ∣ grainF 1 out := grainF_of (Nat.one_dvd _) fun s hs => (grainF_dvd out 1).2 s (doors_flat hs)
    have go : 0 < grainF 1 out := grainF_pos Nat.one_pos fun s hs => mok_sum mok hs
    have dpos : ∀ s ∈ (doorsL m out).flatten, 0 < s.ws.sum := fun s hs => mok_sum mok (doors_flat hs)
    have g0 : 0 < grainF 1 (doorsL m out).flatten := grainF_pos Nat.one_pos dpos
    have glt : grainF 1 (doorsL m out).flatten < 2 ^ N := Nat.lt_of_le_of_lt (Nat.le_of_dvd go gdv) bd.gl
    have gx0 : 0 < grainF 1 (doorsL m out).flatten * x.den := Nat.mul_pos g0 dp
    have gxl : grainF 1 (doorsL m out).flatten * x.den < 2 ^ (N + B) := by
      rw [Nat.pow_add]
      exact Nat.mul_lt_mul'' glt bd.xl
    have ble := bd.le
    have l8 : N + B + 100 * lec rs ≤ 8000 := by omega
    refine ⟨_, rfl, v, x, rfl, isx, x0, x1, ?_⟩
    refine ⟨_, rfl, bk, xs, rs, rfl, hb, av, ok, ne, r3, fun H1 s1 => ?_⟩
    refine ⟨_, rfl, mv, m, out, rfl, im.mono s1, mok, fun H2 pd ys s2 e2 a2 => ?_⟩
    have s12 := s1.trans s2
    have hb2 := s12 _ _ hb
    have av2 := av.imp fun _ _ h => h.mono (SB.m _) s12
    have isx2 := isx.mono s12
    clear s1 hb av isx
    refine ⟨_, rfl, _, rfl, _, rfl, bk, pd, xs, ys, rs, v, x, doorsL m out, N, B, rfl, hb2, av2, ok, isx2, e2, a2, dpos, glt, bd.xl, l8, fun g gp dv1 dv2 dv3 gG => ?_⟩
    have gx2 : grainF 1 (doorsL m out).flatten * x.den ∣ g ^ 2 := by
      rw [Nat.pow_succ, Nat.pow_one]
      exact Nat.mul_dvd_mul dv1 dv2
    obtain ⟨gx, egx⟩ : ∃ gx, gx = grainF 1 (doorsL m out).flatten * x.den := ⟨_, rfl⟩
    rw [← egx] at gx0 gxl gx2
    have botl : ∀ i, botF gx g (rs.take i) * gx < 2 ^ 8001 := fun i => by
      have h1 := botF_lt gxl (rs.take i) gG
      have h2 := Nat.mul_lt_mul'' h1 gxl
      rw [← Nat.pow_add] at h2
      refine Nat.lt_of_lt_of_le h2 (Nat.pow_le_pow_right (by decide) ?_)
      have h3 := Nat.mul_le_mul_left (N + B) (onc_take rs i)
      rw [Nat.mul_add, Nat.mul_one] at ble
      omega
    have botp : ∀ i, 0 < botF gx g (rs.take i) := fun i => botF_pos gx0 gp _
    have ln : rs.length ≠ 0 := fun z => ne (List.length_eq_zero_iff.mp z)
    refine ⟨Nat.zero_le _, fun L nL => ?_⟩
    have t3 := same_upd (o := .lst []) nL
    refine ⟨_, rfl, bk, rfl, ⟨_, SqL.of (t3 _ _ hb2)⟩, for_list (K := K) (a := bk) (xs := xs) (fun i σ H' => ∃ (y y7 : Option V) (lvs : List V), σ = [some (.ref bk), some v, some mv, some (.ref pd), some (.int (g : Nat)), some (.ref L), y, y7] ∧ Same H2 H' ∧ H' L = some (.lst lvs) ∧ lvs.length = i ∧ ∀ (j : Nat) u, lvs[j]? = some u → IsLv H' (botF gx g (rs.take i)) m ((vals x m (doorsL m out) (rs.take i)).getD j []) u) ⟨_, _, [], rfl, t3, upd_same, rfl, fun j u h => by cases h⟩ (fun i σ H' _ h => ?_) (fun i u σ H' hi h => ?_) (fun σ H' h => ?_)⟩
    · obtain ⟨_, _, _, _, s4, _⟩ := h
      exact SqL.of (s4 _ _ hb2)
    · obtain ⟨y, y7, lvs, rfl, s4, eL, ll, lv⟩ := h
      obtain ⟨r, hr', ir⟩ := av2.at hi
      have il : i < rs.length := (List.getElem?_eq_some_iff.mp hr').1
      have rok := ok i r hr'
      have ir := ir.mono (SB.m _) s4
      have refs : ∀ (k : Nat) u, lvs[k]? = some u → ∃ q, u = V.ref q := fun k u h => by
        obtain ⟨t, _, _, _, e, _⟩ := lv k u h
        exact ⟨t, e⟩
      refine ⟨_, rfl, .inl ⟨rfl, _, SqL.of eL⟩, _, rfl, _, rfl, _, rfl, _, rfl, _, rfl, u, v, pd, L, g, botF gx g (rs.take i), m, i, ys, lvs, doorsL m out, vals x m (doorsL m out) (rs.take i), r, x, rfl, s4 _ _ e2, a2.imp fun _ _ h => h.mono s4, eL, ir, rok, ll, lv, dok, isx2.mono s4, x0, x1, bx, botp i, g0, by rw [← egx]; exact botl i, fun qq hq => Nat.dvd_trans (dv3 r (List.mem_of_getElem? hr') qq hq) (botF_dvd gx _ g), fun H5 t5 s5 h5 => ?_⟩
      have eL5 := s5 _ _ eL
      refine ⟨L, _, _, rfl, rfl, eL5, small1000 (by omega), ?_⟩
      rw [← egx, ← botF_take hr'] at h5
      refine ⟨_, y7, _, rfl, same_over (s4.trans s5) nL, upd_same, by rw [List.length_append, ll]; rfl, fun j u2 hj => ?_⟩
      have lf : (vals x m (doorsL m out) (rs.take i)).length = i := by rw [vals_len, List.length_take]; omega
      rw [vals_take hr']
      by_cases hji : j < i
      · rw [List.getElem?_append_left (by omega)] at hj
        have h6 := (((lv j u2 hj).mono s5).up (M' := botF gx g (rs.take (i + 1))) (by rw [botF_take hr']; exact upM_dvd _ _ _))
        have e6 : (vals x m (doorsL m out) (rs.take i) ++ [rowV x m (doorsL m out) (vals x m (doorsL m out) (rs.take i)) r]).getD j [] = (vals x m (doorsL m out) (rs.take i)).getD j [] := by
          rw [List.getD_eq_getElem?_getD, List.getElem?_append_left (by omega), ← List.getD_eq_getElem?_getD]
        rw [e6]
        exact IsLv.put eL5 refs m1 h6
      · have hl := (List.getElem?_eq_some_iff.mp hj).1
        rw [List.length_append, ll] at hl
        have hl : j < i + 1 := hl
        obtain rfl : j = i := by omega
        rw [← ll, List.getElem?_concat_length] at hj
        cases hj
        have e6 : (vals x m (doorsL m out) (rs.take j) ++ [rowV x m (doorsL m out) (vals x m (doorsL m out) (rs.take j)) r]).getD j [] = rowV x m (doorsL m out) (vals x m (doorsL m out) (rs.take j)) r := by
          rw [List.getD_eq_getElem?_getD, List.getElem?_append_right (by omega), lf, Nat.sub_self]
          rfl
        rw [e6]
        exact IsLv.put eL5 refs m1 h5
    · obtain ⟨y, y7, lvs, rfl, s4, eL, ll, lv⟩ := h
      rw [av2.1] at ll lv
      have M1 : botF gx g (rs.take rs.length) < 2 ^ 8001 := Nat.lt_of_le_of_lt (Nat.le_mul_of_pos_right _ gx0) (botl _)
      have Mp := botp rs.length
      have Md : botF gx g (rs.take rs.length) ∣ g ^ (1 + 2 * onc (rs.take rs.length)) := botF_pw gx2 _ (by rw [Nat.pow_one]; exact Nat.dvd_refl g)
      rw [List.take_length] at M1 Mp Md lv
      refine ⟨_, rfl, L, rfl, ⟨_, SqL.of eL⟩, fun D nD => lc_allW (walk_list (K := K) (a := L) (xs := lvs)) (fun i u G' => ∃ p vs, u = .ref p ∧ H' p = none ∧ G' p = some (.lst vs) ∧ AllAre (IsShare T.c_Share G') vs ((vals x m (doorsL m out) rs).getD i [])) (fun _ _ _ _ s h => by
          obtain ⟨p, vs, e, h0, h1, h2⟩ := h
          exact ⟨p, vs, e, h0, s _ _ h1, h2.imp fun _ _ h => h.mono s⟩) nD (fun H' s => SqL.of (s _ _ eL)) (by omega) (fun i u H5 H6 kk hi s5 eD z hk => ?_) (fun H5 ws s5 e5 l5 r5 => ?_)⟩
      · obtain ⟨rfl, hv⟩ := z
        obtain ⟨t, a, b, ts, rfl, h1, h2, lt, b0, hbd, tb', vt⟩ := lv _ _ hv
        have t1 := hid_same _ _ (s5 _ _ h1)
        have t2 := hid_same _ _ (s5 _ _ h2)
        refine ⟨rfl, _, rfl, _, rfl, t, a, b, g, _, ts, rfl, t1, t2, by omega, b0, Nat.lt_of_le_of_lt (Nat.le_of_dvd Mp hbd) M1, Nat.dvd_trans hbd Md, fun H7 p7 vs7 s7 n7 e7 a7 => ?_⟩
        have eD7 : ∃ ys, H7 D = some (.lst ys) := by
          obtain ⟨ys', e'⟩ := eD
          exact ⟨ys', s7 _ _ e'⟩
        have ne7 : p7 ≠ D := fun z => by
          obtain ⟨ys', e'⟩ := eD
          rw [z, e'] at n7
          cases n7
        refine hk _ _ s7 ⟨p7, vs7, rfl, none_of (s5.trans hid_same) n7, by rw [hid_ne ne7]; exact e7, ?_⟩
        rw [← vt]
        exact a7.imp fun _ _ h => h.hidL eD7
      · have s5' : Same H2 H5 := s4.trans (s5.trans hid_same)
        refine q H5 D ws (s12.trans s5') (none_of (s12.trans s4) nD) e5 (by rw [l5, ll]) fun i u hu => ?_
        obtain ⟨p, vs, e, h0, h1, h2⟩ := r5 i u hu
        exact ⟨p, vs, e, none_of (s12.trans s4) h0, hid_same _ _ h1, h2.imp fun _ _ h => h.mono hid_same⟩
theorem rowV_len {x : Rat} {m i : Nat} {ds : List (List Stp)} {fs : List (List Rat)} {r : Rw} (rok : RwOk i r) (hd : ds.length = m) (hf : ∀ j, j < i → (fs.getD j []).length = m) : (rowV x m ds fs r).length = m := by
  have o := rok.args
  cases rok.shape with
  | one => exact List.length_replicate
  | can z => show (ds.map _).length = m; rw [List.length_map, hd]
  | on z k => show (ds.map _).length = m; rw [List.length_map, hd]
  | no k => show (List.map _ _).length = m; rw [List.length_map, hf k (o (.nu k) (by simp))]
  | less k q => show (List.map _ _).length = m; rw [List.length_map, hf k (o (.nu k) (by simp))]
  | both k j => show (List.zipWith _ _ _).length = m; rw [List.length_zipWith, hf k (o (.nu k) (by simp)), hf j (o (.nu j) (by simp)), Nat.min_self]
  | either k j => show (List.zipWith _ _ _).length = m; rw [List.length_zipWith, hf k (o (.nu k) (by simp)), hf j (o (.nu j) (by simp)), Nat.min_self]
theorem vals_row {x : Rat} {m : Nat} {ds : List (List Stp)} {rs : List Rw} (ok : BkOk rs) (hd : ds.length = m) : ∀ n, n ≤ rs.length → ∀ j, j < n → ((vals x m ds (rs.take n)).getD j []).length = m
  | 0, _, j, h => by omega
  | n + 1, hn, j, hj => by
    have e : rs[n]? = some rs[n] := List.getElem?_eq_getElem (by omega)
    have lf : (vals x m ds (rs.take n)).length = n := by rw [vals_len, List.length_take]; omega
    rw [vals_take e]
    by_cases h : j < n
    · rw [List.getD_eq_getElem?_getD, List.getElem?_append_left (by omega), ← List.getD_eq_getElem?_getD]
      exact vals_row ok hd n (by omega) j h
    · obtain rfl : j = n := by omega
      rw [List.getD_eq_getElem?_getD, List.getElem?_append_right (by omega), lf, Nat.sub_self]
      exact rowV_len (ok j _ e) hd (vals_row ok hd j (by omega))
theorem vals_all {x : Rat} {m : Nat} {ds : List (List Stp)} {rs : List Rw} (ok : BkOk rs) (hd : ds.length = m) {j : Nat} (hj : j < rs.length) : ((vals x m ds rs).getD j []).length = m := by
  have := vals_row (x := x) ok hd rs.length (Nat.le_refl _) j hj
  rwa [List.take_length] at this
def spWorth (C S : Addr) : Sp := fun vs H Q _ => ∃ (bk : Addr) (v mv : V) (xs : List V) (rs : List Rw) (x : Rat) (m A B n : Nat) (out : List Stp), vs = [.ref bk, v, mv] ∧ H bk = some (.lst xs) ∧ AllAre (IsRw (SB S) H) xs rs ∧ BkOk rs ∧ rs.length = n + 1 ∧ rs.length ≤ 300 ∧ IsShare S H v x ∧ 0 < x ∧ x < 1 ∧ Bd 4000 x ∧ IsMach C H mv m out ∧ MOk m out ∧ BkBd m out x rs A B ∧
  ∀ H' r q, Same H H' → ((vals x m (doorsL m out) rs).getD n [])[0]? = some q → IsShare S H' r q → Q r H'
theorem ok_p_worth (T : Txt K mg) (hw : T.prm = w.params) : FnOk P w K mg base CX0 8 T.f_p_worth T.d_p_worth ["book", "fade", "machine"] (spWorth T.c_Machine T.c_Share) := by
  refine T.F_p_worth.ok sc_p_worth (fun vs H Q E h => ?_) (fun cdv A outer s H vs Q E hr h => ?_)
  · obtain ⟨bk, v, mv, xs, rs, x, m, A, B, n, out, rfl, _⟩ := h
    rfl
  · obtain ⟨bk, v, mv, xs, rs, x, m, N, B, n, out, rfl, hb, av, ok, ln, r3, isx, x0, x1, bx, im, mok, bd, q⟩ := h
    refine ⟨_, (pss_one (ps_ret (pe_ix ix_list (pe_ix ix_list (pe_call (ok_p_worths T hw) (hr.mono (by decide)) (by rfl) T.g_p_worths T.F_p_worths.kp T.b_p_worths .nil pass0 (pa_cons (pv 0) (pa_cons (pv 1) (pa_cons (pv 2) pa_nil)))) (pe_un un_neg pe_int) (fun _ _ => rfl)) pe_int (fun _ _ => rfl)))), ?_⟩
    have m1 := mok.ok.m1
    have ne : rs ≠ [] := fun z => by
      rw [z] at ln
      cases ln
    refine ⟨_, rfl, _, rfl, _, rfl, bk, v, mv, xs, rs, x, m, N, B, out, rfl, hb, av, ok, ne, r3, isx, x0, x1, bx, im, mok, bd, fun H1 p ws s1 _ e1 l1 h1 => ?_⟩
    have hn : n < ws.length := by omega
    have hv := List.getElem?_eq_getElem hn
    obtain ⟨a, vs, ea, _, ha, aa⟩ := h1 n _ hv
    rw [ea] at hv
    have ll := vals_all (x := x) ok (doors_ok mok).len (show n < rs.length by omega)
    have l0 : 0 < vs.length := by rw [aa.1, ll]; omega
    have hv0 : vs[0]? = some vs[0] := List.getElem?_eq_getElem l0
    obtain ⟨y, hy, iy⟩ := aa.at hv0
    exact ⟨_, rfl, p, _, _, _, rfl, rfl, SqL.of e1, atI_m1 (by omega) hv, a, _, _, _, rfl, rfl, SqL.of ha, atI_nat (j := 0) hv0, q H1 _ y s1 hy iy⟩
end

end Fb

namespace Fb
open PySem PySem.Spec PyProof.Rows L2
section
variable {P : Program} {w : World} {K : PySem.W.Frag} {mg : Str → Option Value} {base : Heap}
/-! ### the law's fractions -/
theorem SL.mono {H H' : Hp} {v : V} {q : Rat} (h : SL H v q) (s : Same H H') : SL H' v q := IsTup2.mono h s
def spLess2 : Sp := fun vs H Q _ => ∃ (v u : V) (x y : Rat), vs = [v, u] ∧ SL H v x ∧ SL H u y ∧ Bd 2000 x ∧ Bd 2000 y ∧ Q (.bl (decide (x < y))) H
theorem ok_l_less (T : Txt K mg) : FnOk P w K mg base CX0 1 T.f_l_less T.d_l_less ["_law_one_here", "_law_other"] spLess2 := by
  refine T.F_l_less.ok sc_l_less (fun vs H Q E h => ?_) (fun cdv A outer s H vs Q E hr h => ?_)
  · obtain ⟨v, u, x, y, rfl, _⟩ := h
    rfl
  · obtain ⟨v, u, x, y, rfl, ⟨p1, rfl, h1⟩, ⟨p2, rfl, h2⟩, bx, by_, q⟩ := h
    refine ⟨_, (pss_one (ps_ret (pe_cmpR op_lt (pe_op op_mulW (pe_ix ix_tup (pv 0) pe_int (fun _ _ => rfl)) (pe_ix ix_tup (pv 1) pe_int (fun _ _ => rfl))) (pe_op op_mulW (pe_ix ix_tup (pv 1) pe_int (fun _ _ => rfl)) (pe_ix ix_tup (pv 0) pe_int (fun _ _ => rfl))) (nomark _)))), ?_⟩
    have t1 : SqT K H p1 [.int x.num, .int (x.den : Int)] := .inl (.inl h1)
    have t2 : SqT K H p2 [.int y.num, .int (y.den : Int)] := .inl (.inl h2)
    refine ⟨_, rfl, p1, _, _, _, rfl, rfl, t1, atI_nat (j := 0) rfl, _, rfl, p2, _, _, _, rfl, rfl, t2, atI_nat (j := 1) rfl, _, _, rfl, rfl, wide_mul bx.num (den_abs by_) (by decide) (by decide) (by decide),
      _, rfl, p2, _, _, _, rfl, rfl, t2, atI_nat (j := 0) rfl, _, rfl, p1, _, _, _, rfl, rfl, t1, atI_nat (j := 1) rfl, _, _, rfl, rfl, wide_mul by_.num (den_abs bx) (by decide) (by decide) (by decide), _, _, rfl, rfl, ?_⟩
    have e : decide (x.num * (y.den : Int) < y.num * (x.den : Int)) = decide (x < y) := decide_eq_decide.mpr (Rat.lt_iff _ _).symm
    rw [← e] at q
    exact q
def spMin2 : Sp := fun vs H Q _ => ∃ (v u : V) (x y : Rat), vs = [v, u] ∧ SL H v x ∧ SL H u y ∧ Bd 2000 x ∧ Bd 2000 y ∧ ∀ H' r, Same H H' → SL H' r (x - y) → Q r H'
theorem ok_l_minus (T : Txt K mg) : FnOk P w K mg base CX0 2 T.f_l_minus T.d_l_minus ["_law_one_here", "_law_other"] spMin2 := by
  refine T.F_l_minus.ok sc_l_minus (fun vs H Q E h => ?_) (fun cdv A outer s H vs Q E hr h => ?_)
  · obtain ⟨v, u, x, y, rfl, _⟩ := h
    rfl
  · obtain ⟨v, u, x, y, rfl, ⟨p1, rfl, h1⟩, ⟨p2, rfl, h2⟩, bx, by_, q⟩ := h
    refine ⟨_, (pss_one (ps_ret (pe_call (ok_l_low T) (hr.mono (by decide)) (by rfl) T.g_l_low T.F_l_low.kp T.b_l_low .nil pass0 (pa_cons (pe_op op_sub (pe_op op_mulW (pe_ix ix_tup (pv 0) pe_int (fun _ _ => rfl)) (pe_ix ix_tup (pv 1) pe_int (fun _ _ => rfl))) (pe_op op_mulW (pe_ix ix_tup (pv 1) pe_int (fun _ _ => rfl)) (pe_ix ix_tup (pv 0) pe_int (fun _ _ => rfl)))) (pa_cons (pe_op op_mulW (pe_ix ix_tup (pv 0) pe_int (fun _ _ => rfl)) (pe_ix ix_tup (pv 1) pe_int (fun _ _ => rfl))) pa_nil))))), ?_⟩
    have t1 : SqT K H p1 [.int x.num, .int (x.den : Int)] := .inl (.inl h1)
    have t2 : SqT K H p2 [.int y.num, .int (y.den : Int)] := .inl (.inl h2)
    refine ⟨_, rfl, p1, _, _, _, rfl, rfl, t1, atI_nat (j := 0) rfl, _, rfl, p2, _, _, _, rfl, rfl, t2, atI_nat (j := 1) rfl, _, _, rfl, rfl, wide_mul bx.num (den_abs by_) (by decide) (by decide) (by decide),
      _, rfl, p2, _, _, _, rfl, rfl, t2, atI_nat (j := 0) rfl, _, rfl, p1, _, _, _, rfl, rfl, t1, atI_nat (j := 1) rfl, _, _, rfl, rfl, wide_mul by_.num (den_abs bx) (by decide) (by decide) (by decide), _, _, rfl, rfl,
      _, rfl, p1, _, _, _, rfl, rfl, t1, atI_nat (j := 1) rfl, _, rfl, p2, _, _, _, rfl, rfl, t2, atI_nat (j := 1) rfl, _, _, rfl, rfl, wide_mul (den_abs bx) (den_abs by_) (by decide) (by decide) (by decide), ?_⟩
    have d1 := x.den_pos
    have d2 := y.den_pos
    refine ⟨_, _, rfl, Int.mul_pos (by omega) (by omega), log_of (by decide) (wide_lt (den_abs bx) (den_abs by_)) (by decide), fun H' r s' hr' => ?_⟩
    rw [rat_sub] at hr'
    exact q H' r s' hr'
/-! ### the weights by which a sign leads on -/
theorem op_eqDK {X : Cx} {K : PySem.W.Frag} (hK : X.K = K) (hu : X.A.units + 64 < cLine) : OpR X (compareOp .Eq) (rEqD K) := by
  subst hK
  exact op_eqD hu
theorem eqv_is (a c : Int) (b d : Str) : PyData.eqv (.tuple [.int a, .str b]) (.tuple [.int c, .str d]) = (a == c && b == d) := by
  simp [PyData.eqv, PyData.eqvAll]
theorem nm_strOk {x : Str} (h : NmOk x) : PyData.strOk x = true := by
  show x.cps.all _ = true
  rw [← Array.all_toList, List.all_eq_true]
  intro c hc
  have h1 : ∀ c ∈ letters, decide (c < 0x110000) = true := by decide +kernel
  exact h1 c (h.all c hc)
theorem sh_is {a : Int} {z : Str} (h : NmOk z) : SeqAt.shaped (.tuple [.int a, .str z]) = true := by
  unfold SeqAt.shaped
  rw [Bool.and_eq_true]
  exact ⟨by simp [PyData.canLay0, PyData.canLayAll0, nm_strOk h], decide_eq_true (by simp [PyData.depth, PyData.depthAll])⟩
theorem filt_one {ss : List Stp} (once : (ss.map Stp.key).Nodup) {s : Stp} (hs : s ∈ ss) : ss.filter (fun u => decide (u.room = s.room ∧ u.sign = s.sign)) = [s] := by
  induction ss with
  | nil => cases hs
  | cons u ss ih =>
    rw [List.map_cons, List.nodup_cons] at once
    rw [List.filter_cons]
    rcases List.mem_cons.mp hs with rfl | hs
    · rw [if_pos (decide_eq_true ⟨rfl, rfl⟩)]
      congr 1
      rw [List.filter_eq_nil_iff]
      intro t ht c
      have c := of_decide_eq_true c
      exact once.1 (List.mem_map.mpr ⟨t, ht, Prod.ext (by show (t.room : Int) = s.room; rw [c.1]) c.2⟩)
    · rw [if_neg (fun c => ?_), ih once.2 hs]
      have c := of_decide_eq_true c
      exact once.1 (List.mem_map.mpr ⟨s, hs, Prod.ext (by show (s.room : Int) = u.room; rw [c.1]) c.2.symm⟩)
def spOnw : Sp := fun vs H Q _ => ∃ (l : Addr) (r m : Nat) (z : Str) (svs : List V) (ss : List Stp), vs = [.ref l, .int r, .str z] ∧ H l = some (.lst svs) ∧ AllAre (IsStp H) svs ss ∧ StpsOk m ss ∧ NmOk z ∧
  (∀ s ∈ ss, s.room = r → s.sign = z → ∀ H' wa, Same H H' → H' wa = some (.tup (nts s.ws)) → Q (.ref wa) H') ∧ ((∀ s ∈ ss, ¬ (s.room = r ∧ s.sign = z)) → ∀ H', Same H H' → Q .non H')
set_option maxHeartbeats 800000 in
theorem ok_l_onward (T : Txt K mg) : FnOk P w K mg base CX0 1 T.f_l_onward T.d_l_onward ["_law_steps", "_law_room", "_law_sign"] spOnw := by
  refine T.F_l_onward.ok sc_l_onward (fun vs H Q E h => ?_) (fun cdv A outer s H vs Q E hr h => ?_)
  · obtain ⟨l, r, m, z, svs, ss, rfl, _⟩ := h
    rfl
  · obtain ⟨l, r, m, z, svs, ss, rfl, hl, av, ok, nz, q1, q2⟩ := h
    refine ⟨_, (pss_cons (ps_setLc (i := 3) (own := [("_law_begin", 4), ("_law_named", 5), ("_law_weights_here", 6)]) (g := (gTup K 3 (gCons (gName 4) (gCons (gName 5) (gCons (gName 6) gNil))))) (tt := _) (by rfl) sc_l_onward.nd rfl rfl (sw_true rfl rfl rfl (by decide +kernel)) (pi_list (pv 0)) (blkOk_by (own := [("_law_begin", 4), ("_law_named", 5), ("_law_weights_here", 6)]) (N := ["_law_steps", "_law_room", "_law_sign", "_law_found", "_law_begin", "_law_named", "_law_weights_here"]) (sc := defScope s_l_onward) (by decide +kernel)) (fun _ _ _ _ _ => by exact (pg_tup (by rfl) (pgs_cons (pg_name (i := 4) sc_l_onward.nd rfl (.inl rfl)) (pgs_cons (pg_name (i := 5) sc_l_onward.nd rfl (.inl rfl)) (pgs_cons (pg_name (i := 6) sc_l_onward.nd rfl (.inl rfl)) pgs_nil))))) (fun _ _ _ _ _ => by exact (pts_one (pt_cmpR (op_eqDK (K := K) rfl hr.units) (pe_tup (pa_cons (pv 4) (pa_cons (pv 5) pa_nil))) (pe_tup (pa_cons (pv 1) (pa_cons (pv 2) pa_nil))) (nomark _)))) (fun _ _ _ _ _ => by exact (pv 6)))
 (pss_one (ps_ret (pe_ix ix_list (pe_op op_cat (pv 3) (pe_lst (pa_cons pe_non pa_nil))) pe_int (fun _ _ => rfl))))), ?_⟩
    have few := ok.few
    refine ⟨_, rfl, l, rfl, ⟨_, SqL.of hl⟩, fun D nD => lc_filtW (walk_list (K := K) (a := l) (xs := svs)) (fun i => (ss[i]?).any fun s => decide (s.room = r ∧ s.sign = z)) (fun i y G => ∃ s, ss[i]? = some s ∧ ∃ wa, y = .ref wa ∧ G wa = some (.tup (nts s.ws))) (fun _ _ _ _ s h => by
        obtain ⟨st, h1, wa, h2, h3⟩ := h
        exact ⟨st, h1, wa, h2, s _ _ h3⟩) nD (fun H' s => SqL.of (s _ _ hl)) (by rw [av.1]; omega) (fun i x H3 H4 kt kf hi s3 eD3 y hkt hkf => ?_) (fun H3 ys s3 e3 a3 => ?_)⟩
    · obtain ⟨rfl, hv⟩ := y
      obtain ⟨st, hst, t, wa, rfl, ht, hw⟩ := av.at hv
      have so := ok.all st (List.mem_of_getElem? hst)
      simp only [hst, Option.any_some] at hkt hkf
      have ht3 := hid_same _ _ (s3 _ _ ht)
      have hw3 := hid_same _ _ (s3 _ _ hw)
      refine ⟨t, _, rfl, .inl (.inl ht3), rfl, _, _, rfl, _, _, rfl, _, _, rfl, rfl, rfl, ?_⟩
      refine ⟨_, rfl, _, rfl, by show 2 ≤ sizeLine; decide, fun u1 nu1 => ?_⟩
      have su1 := same_upd (o := .tup [.int (st.room : Int), .str st.sign]) nu1
      refine ⟨_, rfl, _, rfl, by show 2 ≤ sizeLine; decide, fun u2 nu2 => ?_⟩
      have su2 := same_upd (o := .tup [.int (r : Int), .str z]) nu2
      have s12 := su1.trans su2
      have eDu : ∃ ys, (upd (upd H4 u1 (.tup [.int (st.room : Int), .str st.sign])) u2 (.tup [.int (r : Int), .str z])) D = some (.lst ys) := by
        obtain ⟨ys', e'⟩ := eD3
        exact ⟨ys', s12 _ _ e'⟩
      refine ⟨_, _, .tup (.inl (.inl (su2 _ _ upd_same))) (.cons (.int _) (.cons (.str _) .nil)), .tup (.inl (.inl upd_same)) (.cons (.int _) (.cons (.str _) .nil)), sh_is so.sign, sh_is nz, _, rfl, ?_⟩
      rw [eqv_is]
      by_cases hm : st.room = r ∧ st.sign = z
      · have e : (((st.room : Int) == (r : Int)) && (st.sign == z)) = true := by simp [hm.1, hm.2]
        rw [e]
        exact iteT ⟨_, rfl, hkt (decide_eq_true hm) _ _ s12 ⟨st, rfl, wa, rfl, hid_no eDu (s12 _ _ hw3) (fun _ => nofun)⟩⟩
      · have e : (((st.room : Int) == (r : Int)) && (st.sign == z)) = false := by
          rw [Bool.and_eq_false_iff]
          by_cases h1 : st.room = r
          · exact .inr (by simpa using fun h2 => hm ⟨h1, h2⟩)
          · exact .inl (by simp; omega)
        rw [e]
        exact iteF (hkf (decide_eq_false hm) _ s12)
    · rw [av.1] at a3
      have h1 := filt_are (R := fun y s => ∃ wa, y = V.ref wa ∧ hid D H3 wa = some (.tup (nts s.ws))) (p := fun (s : Stp) => decide (s.room = r ∧ s.sign = z)) ss.length ys (Nat.le_refl _) a3
      rw [List.take_length] at h1
      have sA : Same H H3 := s3.trans hid_same
      refine ⟨_, rfl, by show 1 ≤ sizeLine; decide, fun c nc => ?_⟩
      have sc := same_upd (o := .lst [.non]) nc
      have ly : ys.length ≤ ss.length := by rw [h1.1]; exact List.length_filter_le _ _
      refine ⟨D, c, _, _, rfl, rfl, sc _ _ e3, upd_same, Nat.le_of_lt (small1000 (by show _ + 1 ≤ 1000; omega)), fun c2 nc2 => ?_⟩
      have sc2 := same_upd (o := .lst (ys ++ [.non])) nc2
      rcases step_or ss r z with ⟨s, hs, hr1, hs1⟩ | no
      · subst hr1
        subst hs1
        rw [filt_one ok.once hs] at h1
        match ys, h1.1 with
        | [y], _ =>
          obtain ⟨wa, rfl, hwa⟩ := h1.2 0 y s rfl rfl
          exact ⟨c2, _, _, _, rfl, rfl, SqL.of upd_same, atI_nat (j := 0) rfl, q1 s hs rfl rfl _ wa (sA.trans (sc.trans sc2)) (sc2 _ _ (sc _ _ (hid_same _ _ hwa)))⟩
      · have e : ss.filter (fun s => decide (s.room = r ∧ s.sign = z)) = [] := List.filter_eq_nil_iff.mpr fun s hs c => no s hs (of_decide_eq_true c)
        rw [e] at h1
        match ys, h1.1 with
        | [], _ => exact ⟨c2, _, _, _, rfl, rfl, SqL.of upd_same, atI_nat (j := 0) rfl, q2 no _ (sA.trans (sc.trans sc2))⟩
/-! ### the worth of a step, the law's way -/
def prodD (b : Nat) (l : List Rat) : Nat := l.foldl (fun b q => b * q.den) b
theorem prodD_dvd : ∀ (l : List Rat) (b : Nat), b ∣ prodD b l ∧ ∀ q ∈ l, q.den ∣ prodD b l
  | [], b => ⟨Nat.dvd_refl _, fun q h => by cases h⟩
  | q :: l, b => by
    obtain ⟨h1, h2⟩ := prodD_dvd l (b * q.den)
    refine ⟨Nat.dvd_trans (Nat.dvd_mul_right _ _) h1, fun y hy => ?_⟩
    rcases List.mem_cons.mp hy with rfl | hy
    · exact Nat.dvd_trans (Nat.dvd_mul_left _ _) h1
    · exact h2 y hy
theorem prodD_pos : ∀ (l : List Rat) {b : Nat}, 0 < b → 0 < prodD b l
  | [], _, h => h
  | q :: l, _, h => prodD_pos l (Nat.mul_pos h q.den_pos)
theorem prodD_lt {N : Nat} : ∀ {l : List Rat} {b a : Nat}, (∀ q ∈ l, q.den < 2 ^ N) → b < 2 ^ a → prodD b l < 2 ^ (a + N * l.length)
  | [], b, a, _, h => h
  | q :: l, b, a, hl, h => by
    have h1 : b * q.den < 2 ^ (a + N) := by
      rw [Nat.pow_add]
      exact Nat.mul_lt_mul'' h (hl q List.mem_cons_self)
    have := prodD_lt (l := l) (fun y hy => hl y (List.mem_cons_of_mem _ hy)) h1
    rw [List.length_cons, Nat.mul_succ, show a + (N * l.length + N) = a + N + N * l.length by omega]
    exact this
theorem prodD_snoc (b : Nat) (l : List Rat) (q : Rat) : prodD b (l ++ [q]) = prodD b l * q.den := by
  unfold prodD
  rw [List.foldl_append]
  rfl
def tmI (Pp : Nat) (w : Nat) (q : Rat) : Int := (w : Int) * q.num * ((Pp / q.den : Nat) : Int)
theorem tm_val {Pp S w : Nat} {q : Rat} (hd : q.den ∣ Pp) (P0 : 0 < Pp) : Rat.divInt (w : Int) (S : Int) * q = Rat.divInt (tmI Pp w q) ((S * Pp : Nat) : Int) := by
  obtain ⟨k, rfl⟩ := hd
  have k0 : 0 < k := Nat.pos_of_ne_zero fun z => by
    rw [z] at P0
    simp at P0
  unfold tmI
  rw [Nat.mul_div_cancel_left _ q.den_pos]
  conv => lhs; rhs; rw [← Rat.num_divInt_den q]
  rw [Rat.divInt_mul_divInt, Int.natCast_mul, Int.natCast_mul, ← Int.mul_assoc, Rat.divInt_mul_right (by omega)]
theorem tms_val {Pp S : Nat} (P0 : 0 < Pp) : ∀ (ws : List Nat) (f : List Rat), (∀ q ∈ f, q.den ∣ Pp) → List.zipWith (· * ·) (ws.map fun (n : Nat) => Rat.divInt (n : Int) (S : Int)) f = (List.zipWith (tmI Pp) ws f).map fun x => Rat.divInt x ((S * Pp : Nat) : Int)
  | [], _, _ => rfl
  | _ :: _, [], _ => rfl
  | w :: ws, q :: f, h => by
    show _ :: _ = _ :: _
    congr 1
    · exact tm_val (h q List.mem_cons_self) P0
    · exact tms_val P0 ws f fun y hy => h y (List.mem_cons_of_mem _ hy)
theorem dot_tms {Pp : Nat} {ws : List Nat} {f : List Rat} (P0 : 0 < Pp) (h : ∀ q ∈ f, q.den ∣ Pp) : dot (hpW ws) f = Rat.divInt (List.zipWith (tmI Pp) ws f).sum ((ws.sum * Pp : Nat) : Int) := by
  unfold dot hpW
  rw [tms_val P0 ws f h, rsum_div]
theorem sum_abs {c : Nat} : ∀ {l : List Int}, (∀ n ∈ l, n.natAbs < 2 ^ c) → l.sum.natAbs ≤ l.length * 2 ^ c
  | [], _ => Nat.zero_le _
  | n :: l, h => by
    have h1 := h n List.mem_cons_self
    have h2 := sum_abs (l := l) fun y hy => h y (List.mem_cons_of_mem _ hy)
    rw [List.sum_cons, List.length_cons, Nat.succ_mul]
    omega
def spOn : Sp := fun vs H Q _ => ∃ (fv : V) (l b : Addr) (kf df r m : Nat) (z : Str) (svs us : List V) (ss : List Stp) (f : List Rat), vs = [fv, .ref l, .int r, .str z, .ref b] ∧ IsTup2 H fv (kf : Nat) (df : Nat) ∧ 1 ≤ df ∧ kf ≤ df ∧ df ≤ 102 ∧ H l = some (.lst svs) ∧ AllAre (IsStp H) svs ss ∧ StpsOk m ss ∧ NmOk z ∧ m ≤ 4 ∧ (∀ s ∈ ss, s.ws.sum < 2 ^ 7) ∧ H b = some (.lst us) ∧ AllAre (SL H) us f ∧ f.length = m ∧ (∀ q ∈ f, Bd 1800 q) ∧
  ∀ H' v, Same H H' → SL H' v (Rat.divInt (kf : Int) (df : Int) * stepV z (doorOf ss r) f) → Q v H'
set_option maxHeartbeats 1600000 in
theorem ok_l_on (T : Txt K mg) : FnOk P w K mg base CX0 3 T.f_l_on T.d_l_on ["_law_fade_here", "_law_steps", "_law_room", "_law_sign", "_law_there"] spOn := by
  refine T.F_l_on.ok sc_l_on (fun vs H Q E h => ?_) (fun cdv A outer s H vs Q E hr h => ?_)
  · obtain ⟨fv, l, b, kf, df, r, m, z, svs, us, ss, f, rfl, _⟩ := h
    rfl
  · obtain ⟨fv, l, b, kf, df, r, m, z, svs, us, ss, f, rfl, ⟨pf, rfl, hf⟩, d1, kd, d102, hl, av, ok, nz, m4, sl, hb, au, lf, bf, q⟩ := h
    refine ⟨_, (pss_cons (ps_set (i := 5) sc_l_on.nd rfl (.inl rfl) (pe_call (ok_l_onward T) (hr.mono (by decide)) (by rfl) T.g_l_onward T.F_l_onward.kp T.b_l_onward .nil pass0 (pa_cons (pv 1) (pa_cons (pv 2) (pa_cons (pv 3) pa_nil)))))
 (pss_cons (ps_if (pt_cmpR op_isN (pv 5) pe_non (nomark _))
  (pss_one (ps_ret (pe_tup (pa_cons pe_int (pa_cons pe_int pa_nil)))))
  pss_nil)
 (pss_cons (ps_set (i := 6) sc_l_on.nd rfl (.inr rfl) pe_int)
 (pss_cons (ps_for PassesOwn.never rfl (pi_list (pv 4)) (pg_name (i := 7) sc_l_on.nd rfl (.inl rfl))
  (pss_one (ps_set (i := 6) sc_l_on.nd rfl (.inr rfl) (pe_op op_mulW (pv 6) (pe_ix ix_tup (pv 7) pe_int (fun _ _ => rfl))))))
 (pss_cons (ps_set (i := 8) sc_l_on.nd rfl (.inl rfl) (pe_callB (cr_sumK (K := K) rfl rfl) (by rfl) T.z_sum (by decide +kernel) (pa_cons (pe_lc (own := [("_law_weight", 9), ("_law_one_here", 7)]) (g := (gTup K 2 (gCons (gName 9) (gCons (gName 7) gNil)))) (tt := tYes) (by rfl) sc_l_on.nd (pi_zipS .t .l (K := K) rfl (by rfl) T.z_zip (pa_cons (pv 5) (pa_cons (pv 4) pa_nil))) (blkOk_by (own := [("_law_weight", 9), ("_law_one_here", 7)]) (N := ["_law_fade_here", "_law_steps", "_law_room", "_law_sign", "_law_there", "_law_weights_here", "_law_bottom", "_law_one_here", "_law_total", "_law_weight"]) (sc := defScope s_l_on) (by decide +kernel)) (fun _ _ _ _ _ => by exact (pg_tup (by rfl) (pgs_cons (pg_name (i := 9) sc_l_on.nd rfl (.inl rfl)) (pgs_cons (pg_name (i := 7) sc_l_on.nd rfl (.inl rfl)) pgs_nil)))) (fun _ _ _ _ _ => by exact pts_nil) (fun _ _ _ _ _ => by exact (pe_op op_mulW (pe_op op_mulW (pv 9) (pe_ix (ix_tupK (K := K) rfl) (pv 7) pe_int (fun _ _ => rfl))) (pe_op op_fdivW (pv 6) (pe_ix (ix_tupK (K := K) rfl) (pv 7) pe_int (fun _ _ => rfl)))))) pa_nil)))
 (pss_one (ps_ret (pe_call (ok_l_low T) (hr.mono (by decide)) (by rfl) T.g_l_low T.F_l_low.kp T.b_l_low .nil pass0 (pa_cons (pe_op op_mulW (pe_ix ix_tup (pv 0) pe_int (fun _ _ => rfl)) (pv 8)) (pa_cons (pe_op op_mulW (pe_op op_mulW (pe_ix ix_tup (pv 0) pe_int (fun _ _ => rfl)) (pv 6)) (pe_callB (cr_sumTK (K := K) rfl rfl) (by rfl) T.z_sum (by decide +kernel) (pa_cons (pv 5) pa_nil))) pa_nil)))))))))), ?_⟩
    refine ⟨_, rfl, _, rfl, _, rfl, l, r, m, z, svs, ss, rfl, hl, av, ok, nz, fun st hst hr1 hs1 H1 wa s1 hwa => ?_, fun no H1 s1 => ?_⟩
    · subst hr1
      subst hs1
      have so := ok.all st hst
      have lw := so.wts.len
      refine ⟨_, rfl, rfl, _, rfl, ?_⟩
      rw [decide_eq_false (show ¬ (V.ref wa = V.non) from fun z => by cases z)]
      refine iteF ?_
      have hb1 := s1 _ _ hb
      have au1 := au.imp fun _ _ h => h.mono s1
      have hf1 := s1 _ _ hf
      have s0 : 0 < st.ws.sum := by
        obtain ⟨n, hn, n0⟩ := so.wts.pos
        have := le_sum' hn
        omega
      have pl : ∀ j, prodD 1 (f.take j) < 2 ^ 7201 := fun j => by
        have h1 := prodD_lt (N := 1800) (l := f.take j) (b := 1) (a := 1) (fun q hq => by
          have := den_abs (bf q (List.mem_of_mem_take hq))
          omega) (by decide)
        refine Nat.lt_of_lt_of_le h1 (Nat.pow_le_pow_right (by decide) ?_)
        have : (f.take j).length ≤ 4 := by
          rw [List.length_take]
          omega
        omega
      refine ⟨_, rfl, b, rfl, ⟨_, SqL.of hb1⟩, for_list (K := K) (a := b) (xs := us) (fun j σ H' => ∃ y7 y8 y9, σ = [some (.ref pf), some (.ref l), some (.int (st.room : Nat)), some (.str st.sign), some (.ref b), some (.ref wa), some (.int (prodD 1 (f.take j) : Nat)), y7, y8, y9] ∧ H' = H1) ⟨_, _, _, rfl, rfl⟩ (fun j σ H' _ h => ?_) (fun j u σ H' hi h => ?_) (fun σ H' h => ?_)⟩
      · obtain ⟨_, _, _, _, rfl⟩ := h
        exact SqL.of hb1
      · obtain ⟨y7, y8, y9, rfl, rfl⟩ := h
        obtain ⟨qq, hqq, p2, rfl, h2⟩ := au1.at hi
        refine ⟨_, rfl, _, rfl, p2, _, _, _, rfl, rfl, .inl (.inl h2), atI_nat (j := 1) rfl, _, _, rfl, rfl, wide_mul (nat_abs (pl j)) (den_abs (bf qq (List.mem_of_getElem? hqq))) (by decide) (by decide) (by decide), ?_⟩
        refine ⟨some (.ref p2), y8, y9, ?_, rfl⟩
        have e : prodD 1 (f.take (j + 1)) = prodD 1 (f.take j) * qq.den := by
          rw [List.take_add_one, hqq]
          exact prodD_snoc _ _ _
        rw [e, Int.natCast_mul]
        rfl
      · obtain ⟨y7, y8, y9, rfl, rfl⟩ := h
        rw [au.1, List.take_length]
        have P1 := pl f.length
        rw [List.take_length] at P1
        obtain ⟨_, Pd⟩ := prodD_dvd f 1
        have P0 := prodD_pos f Nat.one_pos
        generalize prodD 1 f = Pp at *
        have tb' : ∀ (i : Nat) (n : Nat) (qq : Rat), st.ws[i]? = some n → f[i]? = some qq → (tmI Pp n qq).natAbs < 2 ^ 9008 := fun i n qq hn hqq => by
          unfold tmI
          have h1 : ((n : Int) * qq.num).natAbs < 2 ^ (7 + 1800) := wide_lt (nat_abs (Nat.lt_of_le_of_lt (le_sum' (List.mem_of_getElem? hn)) (sl st hst))) (bf qq (List.mem_of_getElem? hqq)).num
          have h2 := wide_lt h1 (nat_abs (Nat.lt_of_le_of_lt (Nat.div_le_self Pp qq.den) P1))
          exact h2
        have qT : SqT K H' wa (nts st.ws) := .inl (.inl hwa)
        refine ⟨_, rfl, _, rfl, wa, b, nts st.ws, us, rfl, ⟨qT, SqL.of hb1⟩, fun D nD => lc_allW (walk_zipS (k1 := .t) (k2 := .l) (K := K) (a := wa) (b := b) (xs := nts st.ws) (ys := us) (n := m) (by rw [nts_len, lw, au1.1, lf, Nat.min_self])) (fun i y _ => ∃ (n : Nat) (qq : Rat), st.ws[i]? = some n ∧ f[i]? = some qq ∧ y = .int (tmI Pp n qq)) (fun _ _ _ _ _ h => h) nD (fun H' s => ⟨(.inl (.inl (s _ _ hwa)) : SqT K H' wa (nts st.ws)), SqL.of (s _ _ hb1)⟩) (by omega) (fun i v H2 H3 kk hi s2 eD y hk => ?_) (fun H2 ys s2 e l2 r2 => ?_)⟩
        · obtain ⟨t2, xa, xb, rfl, nt, rfl, exa, exb⟩ := y
          obtain ⟨n, hn, rfl⟩ := nts_at exa
          obtain ⟨qq, hqq, p2, rfl, h2⟩ := au1.at (show us[i]? = some xb from exb)
          have st2 := same_upd (o := .tup [.int (n : Nat), .ref p2]) nt
          have h22 := st2 _ _ (hid_same _ _ (s2 _ _ h2))
          have bq := bf qq (List.mem_of_getElem? hqq)
          have wn : n < 2 ^ 7 := Nat.lt_of_le_of_lt (le_sum' (List.mem_of_getElem? hn)) (sl st hst)
          have dq := den_abs bq
          refine ⟨t2, _, rfl, .inl (.inl upd_same), rfl, _, _, rfl, _, _, rfl, rfl, rfl, ?_⟩
          refine ⟨_, rfl, _, rfl, p2, _, _, _, rfl, rfl, .inl (.inl h22), atI_nat (j := 0) rfl, _, _, rfl, rfl, wide_mul (nat_abs wn) bq.num (by decide) (by decide) (by decide), _, rfl, _, rfl, p2, _, _, _, rfl, rfl, .inl (.inl h22), atI_nat (j := 1) rfl, _, _, rfl, rfl, wide_div (by have := qq.den_pos; omega) dq (by decide) (by decide), _, _, rfl, rfl, wide_mul (wide_lt (nat_abs wn) bq.num) (b := 7201) ?_ (by decide) (by decide) (by decide), hk _ _ st2 ⟨n, qq, hn, hqq, ?_⟩⟩
          · rw [← Int.natCast_ediv]
            exact nat_abs (Nat.lt_of_le_of_lt (Nat.div_le_self _ _) P1)
          · dsimp only
            unfold tmI
            rw [Int.natCast_ediv]
        · have ey : ys = (List.zipWith (tmI Pp) st.ws f).map V.int := by
            refine List.ext_getElem? fun i => ?_
            by_cases hi : i < ys.length
            · obtain ⟨n, qq, hn, hqq, hy⟩ := r2 i _ (List.getElem?_eq_getElem hi)
              rw [List.getElem?_eq_getElem hi, hy, List.getElem?_map, List.getElem?_zipWith, hn, hqq]
              rfl
            · rw [List.getElem?_eq_none (by omega), List.getElem?_eq_none (by rw [List.length_map, List.length_zipWith]; omega)]
          rw [ey] at e
          have s2' : Same H' H2 := s2.trans hid_same
          refine ⟨D, _, rfl, SqL.of e, ?_⟩
          have hf2 := s2' _ _ hf1
          have hw2 := s2' _ _ hwa
          rw [nts_i] at hw2
          obtain ⟨tot, htot⟩ : ∃ tot, tot = (List.zipWith (tmI Pp) st.ws f).sum := ⟨_, rfl⟩
          have totl : tot.natAbs < 2 ^ 9011 := by
            have h1 := sum_abs (c := 9008) (l := List.zipWith (tmI Pp) st.ws f) fun n hn => by
              obtain ⟨i, hi⟩ := List.mem_iff_getElem?.mp hn
              rw [List.getElem?_zipWith] at hi
              cases h1 : st.ws[i]? with
              | none => rw [h1] at hi; cases hi
              | some n1 =>
                cases h2 : f[i]? with
                | none => rw [h1, h2] at hi; cases hi
                | some q2 =>
                  rw [h1, h2] at hi
                  cases hi
                  exact tb' i n1 q2 h1 h2
            rw [← htot] at h1
            refine Nat.lt_of_le_of_lt h1 ?_
            rw [show 9011 = 3 + 9008 from rfl, Nat.pow_add]
            refine Nat.mul_lt_mul_of_pos_right ?_ (Nat.pow_pos (by decide))
            rw [List.length_zipWith, lw, lf, Nat.min_self]
            omega
          rw [← htot]
          have S0 : (0 : Int) < ((st.ws.sum : Nat) : Int) := by omega
          refine ⟨_, rfl, pf, _, _, _, rfl, rfl, .inl (.inl hf2), atI_nat (j := 0) rfl, _, rfl, _, _, rfl, rfl, wide_mul (a := 7) (nat_abs (Nat.lt_of_le_of_lt (show kf ≤ 102 by omega) (by decide))) totl (by decide) (by decide) (by decide), _, rfl, pf, _, _, _, rfl, rfl, .inl (.inl hf2), atI_nat (j := 1) rfl, _, rfl, _, _, rfl, rfl, wide_mul (a := 7) (nat_abs (Nat.lt_of_le_of_lt d102 (by decide))) (nat_abs P1) (by decide) (by decide) (by decide), _, rfl, wa, _, rfl, .inl (.inl hw2), ?_⟩
          rw [sum_ints]
          have b1 : ((df : Int) * (Pp : Int)).natAbs < 2 ^ (7 + 7201) := wide_lt (nat_abs (Nat.lt_of_le_of_lt d102 (by decide))) (nat_abs P1)
          have b2 : ((st.ws.sum : Nat) : Int).natAbs < 2 ^ 7 := nat_abs (sl st hst)
          refine ⟨_, _, rfl, rfl, wide_mul b1 b2 (by decide) (by decide) (by decide), _, _, rfl, Int.mul_pos (Int.mul_pos (by omega) (by omega)) S0, log_of (by decide) (wide_lt b1 b2) (by decide), fun H3 v3 s3 h3 => q H3 v3 (s1.trans (s2'.trans s3)) ?_⟩
          rw [step_some ok.once hst, dot_tms P0 Pd, ← htot, Rat.divInt_mul_divInt]
          have e9 : ((df : Int) * (Pp : Int)) * ((st.ws.sum : Nat) : Int) = (df : Int) * ((st.ws.sum * Pp : Nat) : Int) := by
            rw [Int.natCast_mul, Int.mul_assoc, Int.mul_comm (Pp : Int)]
          rw [← e9]
          exact h3
    · refine ⟨_, rfl, rfl, _, rfl, ?_⟩
      rw [decide_eq_true rfl]
      refine iteT ⟨by show 2 ≤ sizeLine; decide, fun t nt => ?_⟩
      have st := same_upd (o := .tup [.int 0, .int 1]) nt
      refine q _ _ (s1.trans st) ⟨t, rfl, ?_⟩
      rw [step_none no, Rat.mul_zero]
      exact upd_same
end

end Fb

namespace Fb
open PySem PySem.Spec PyProof.Rows L2
section
variable {P : Program} {w : World} {K : PySem.W.Frag} {mg : Str → Option Value} {base : Heap}
/-! ### the worths of a row, the law's way -/
def IsFs (H : Hp) (v : V) (f : List Rat) : Prop := ∃ a vs, v = .ref a ∧ H a = some (.lst vs) ∧ AllAre (SL H) vs f
theorem IsFs.mono {H H' : Hp} {v : V} {f : List Rat} (h : IsFs H v f) (s : Same H H') : IsFs H' v f := by
  obtain ⟨a, vs, e, h1, h2⟩ := h
  exact ⟨a, vs, e, s _ _ h1, h2.imp fun _ _ h => h.mono s⟩
theorem SL.hidL {H : Hp} {D : Addr} {v : V} {q : Rat} (e : ∃ ys, H D = some (.lst ys)) (h : SL H v q) : SL (hid D H) v q := by
  obtain ⟨p, e1, h1⟩ := h
  exact ⟨p, e1, hid_no e h1 (fun _ => nofun)⟩
theorem SL.put {H : Hp} {S : Addr} {ys o : List V} {v : V} {q : Rat} (hS : H S = some (.lst ys)) (h : SL H v q) : SL (upd H S (.lst o)) v q := by
  obtain ⟨p, e1, h1⟩ := h
  refine ⟨p, e1, ?_⟩
  rw [upd_ne fun z => by rw [z, hS] at h1; cases h1]
  exact h1
theorem tup_sl {H : Hp} {t : Addr} (n : Nat) (h : H t = some (.tup [.int (n : Int), .int 1])) : SL H (.ref t) ((n : Int) : Rat) := ⟨t, rfl, h⟩
def spWof : Sp := fun vs H Q _ => ∃ (rv fv : V) (l F : Addr) (kf df m i : Nat) (svs fvs : List V) (ss : List Stp) (fs : List (List Rat)) (r : Rw), vs = [rv, fv, .int m, .ref l, .ref F] ∧ IsRw SL H rv r ∧ RwOk i r ∧ IsTup2 H fv (kf : Nat) (df : Nat) ∧ 1 ≤ df ∧ kf ≤ df ∧ df ≤ 102 ∧ H l = some (.lst svs) ∧ AllAre (IsStp H) svs ss ∧ StpsOk m ss ∧ m ≤ 4 ∧ (∀ s ∈ ss, s.ws.sum < 2 ^ 7) ∧ H F = some (.lst fvs) ∧ fvs.length = i ∧
  (∀ (j : Nat) u, fvs[j]? = some u → IsFs H u (fs.getD j []) ∧ (fs.getD j []).length = m ∧ ∀ q ∈ fs.getD j [], Bd 1800 q) ∧
  ∀ H' v, Same H H' → IsFs H' v (rowV (Rat.divInt (kf : Int) (df : Int)) m (doorsL m ss) fs r) → Q v H'
set_option maxHeartbeats 3200000 in
theorem ok_l_worths_of (T : Txt K mg) : FnOk P w K mg base CX0 4 T.f_l_worths_of T.d_l_worths_of ["_law_row_here", "_law_fade_here", "_law_many", "_law_steps", "_law_found"] spWof := by
  refine T.F_l_worths_of.ok sc_l_worths_of (fun vs H Q E h => ?_) (fun cdv A outer s H vs Q E hr h => ?_)
  · obtain ⟨rv, fv, l, F, kf, df, m, i, svs, fvs, ss, fs, r, rfl, _⟩ := h
    rfl
  · obtain ⟨rv, fv, l, F, kf, df, m, i, svs, fvs, ss, fs, r, rfl, ⟨tr, vs, rfl, htr, av⟩, rok, hf, d1, kd, d102, hl, sv, ok, m4, sl, hF, li, lv, q⟩ := h
    refine ⟨_, (pss_cons (ps_set (i := 5) sc_l_worths_of.nd rfl (.inl rfl) (pe_ix ix_tup (pv 0) pe_int (fun _ _ => rfl)))
 (pss_cons (ps_if (pt_cmpR op_eq (pv 5) pe_str (nomark _))
  (pss_one (ps_ret (pe_op op_rep (pe_lst (pa_cons (pe_tup (pa_cons pe_int (pa_cons pe_int pa_nil))) pa_nil)) (pv 2))))
  pss_nil)
 (pss_cons (ps_if (pt_cmpR op_eq (pv 5) pe_str (nomark _))
  (pss_one (ps_ret (pe_lc (own := [("_law_room", 11)]) (g := (gName 11)) (tt := tYes) (by rfl) sc_l_worths_of.nd (pi_range1 (by rfl) T.z_range (pa_cons (pv 2) pa_nil)) (blkOk_by (own := [("_law_room", 11)]) (N := ["_law_row_here", "_law_fade_here", "_law_many", "_law_steps", "_law_found", "_law_word", "_law_told_here", "_law_one_here", "_law_other", "_law_lesser", "_law_greater", "_law_room"]) (sc := defScope s_l_worths_of) (by decide +kernel)) (fun _ _ _ _ _ => by exact (pg_name (i := 11) sc_l_worths_of.nd rfl (.inl rfl))) (fun _ _ _ _ _ => by exact pts_nil) (fun _ _ _ _ _ => by exact (pe_tup (pa_cons (pe_callTy call_int1 (by rfl) T.z_int (by decide +kernel) (pa_cons (pe_cmpR op_notN (pe_call (ok_l_onward T) (hr.mono (by decide)) (by rfl) T.g_l_onward T.F_l_onward.kp T.b_l_onward .nil pass0 (pa_cons (pv 3) (pa_cons (pv 11) (pa_cons (pe_ix (ix_tupK (K := K) rfl) (pv 0) pe_int (fun _ _ => rfl)) pa_nil)))) pe_non (nomark _)) pa_nil)) (pa_cons pe_int pa_nil)))))))
  pss_nil)
 (pss_cons (ps_if (pt_cmpR op_eq (pv 5) pe_str (nomark _))
  (pss_one (ps_ret (pe_lc (own := [("_law_room", 11)]) (g := (gName 11)) (tt := tYes) (by rfl) sc_l_worths_of.nd (pi_range1 (by rfl) T.z_range (pa_cons (pv 2) pa_nil)) (blkOk_by (own := [("_law_room", 11)]) (N := ["_law_row_here", "_law_fade_here", "_law_many", "_law_steps", "_law_found", "_law_word", "_law_told_here", "_law_one_here", "_law_other", "_law_lesser", "_law_greater", "_law_room"]) (sc := defScope s_l_worths_of) (by decide +kernel)) (fun _ _ _ _ _ => by exact (pg_name (i := 11) sc_l_worths_of.nd rfl (.inl rfl))) (fun _ _ _ _ _ => by exact pts_nil) (fun _ _ _ _ _ => by exact (pe_call (ok_l_on T) (hr.mono (by decide)) (by rfl) T.g_l_on T.F_l_on.kp T.b_l_on .nil pass0 (pa_cons (pv 1) (pa_cons (pv 3) (pa_cons (pv 11) (pa_cons (pe_ix (ix_tupK (K := K) rfl) (pv 0) pe_int (fun _ _ => rfl)) (pa_cons (pe_ix (ix_listK (K := K) rfl) (pv 4) (pe_ix (ix_tupK (K := K) rfl) (pv 0) pe_int (fun _ _ => rfl)) (fun _ _ => rfl)) pa_nil))))))))))
  pss_nil)
 (pss_cons (ps_if (pt_cmpR op_eq (pv 5) pe_str (nomark _))
  (pss_one (ps_ret (pe_lc (own := [("_law_one_here", 7)]) (g := (gName 7)) (tt := tYes) (by rfl) sc_l_worths_of.nd (pi_list (pe_ix ix_list (pv 4) (pe_ix ix_tup (pv 0) pe_int (fun _ _ => rfl)) (fun _ _ => rfl))) (blkOk_by (own := [("_law_one_here", 7)]) (N := ["_law_row_here", "_law_fade_here", "_law_many", "_law_steps", "_law_found", "_law_word", "_law_told_here", "_law_one_here", "_law_other", "_law_lesser", "_law_greater", "_law_room"]) (sc := defScope s_l_worths_of) (by decide +kernel)) (fun _ _ _ _ _ => by exact (pg_name (i := 7) sc_l_worths_of.nd rfl (.inl rfl))) (fun _ _ _ _ _ => by exact pts_nil) (fun _ _ _ _ _ => by exact (pe_call (ok_l_minus T) (hr.mono (by decide)) (by rfl) T.g_l_minus T.F_l_minus.kp T.b_l_minus .nil pass0 (pa_cons (pe_tup (pa_cons pe_int (pa_cons pe_int pa_nil))) (pa_cons (pv 7) pa_nil)))))))
  pss_nil)
 (pss_cons (ps_if (pt_cmpR op_eq (pv 5) pe_str (nomark _))
  (pss_one (ps_ret (pe_lc (own := [("_law_one_here", 7)]) (g := (gName 7)) (tt := tYes) (by rfl) sc_l_worths_of.nd (pi_list (pe_ix ix_list (pv 4) (pe_ix ix_tup (pv 0) pe_int (fun _ _ => rfl)) (fun _ _ => rfl))) (blkOk_by (own := [("_law_one_here", 7)]) (N := ["_law_row_here", "_law_fade_here", "_law_many", "_law_steps", "_law_found", "_law_word", "_law_told_here", "_law_one_here", "_law_other", "_law_lesser", "_law_greater", "_law_room"]) (sc := defScope s_l_worths_of) (by decide +kernel)) (fun _ _ _ _ _ => by exact (pg_name (i := 7) sc_l_worths_of.nd rfl (.inl rfl))) (fun _ _ _ _ _ => by exact pts_nil) (fun _ _ _ _ _ => by exact (pe_ifExp (pt_val (pe_call (ok_l_less T) (hr.mono (by decide)) (by rfl) T.g_l_less T.F_l_less.kp T.b_l_less .nil pass0 (pa_cons (pe_ix (ix_tupK (K := K) rfl) (pv 0) pe_int (fun _ _ => rfl)) (pa_cons (pv 7) pa_nil)))) (pe_call (ok_l_minus T) (hr.mono (by decide)) (by rfl) T.g_l_minus T.F_l_minus.kp T.b_l_minus .nil pass0 (pa_cons (pv 7) (pa_cons (pe_ix (ix_tupK (K := K) rfl) (pv 0) pe_int (fun _ _ => rfl)) pa_nil))) (pe_tup (pa_cons pe_int (pa_cons pe_int pa_nil))))))))
  pss_nil)
 (pss_cons (ps_set (i := 6) sc_l_worths_of.nd rfl (.inl rfl) (pe_lst pa_nil))
 (pss_cons (ps_for PassesOwn.never rfl (pi_zip (by rfl) T.z_zip (pa_cons (pe_ix ix_list (pv 4) (pe_ix ix_tup (pv 0) pe_int (fun _ _ => rfl)) (fun _ _ => rfl)) (pa_cons (pe_ix ix_list (pv 4) (pe_ix ix_tup (pv 0) pe_int (fun _ _ => rfl)) (fun _ _ => rfl)) pa_nil))) (pg_tup (by rfl) (pgs_cons (pg_name (i := 7) sc_l_worths_of.nd rfl (.inl rfl)) (pgs_cons (pg_name (i := 8) sc_l_worths_of.nd rfl (.inl rfl)) pgs_nil)))
  (pss_cons (ps_asg (pe_ifExp (pt_val (pe_call (ok_l_less T) (hr.mono (by decide)) (by rfl) T.g_l_less T.F_l_less.kp T.b_l_less .nil pass0 (pa_cons (pv 7) (pa_cons (pv 8) pa_nil)))) (pe_tup (pa_cons (pv 7) (pa_cons (pv 8) pa_nil))) (pe_tup (pa_cons (pv 8) (pa_cons (pv 7) pa_nil)))) (pg_tup (by rfl) (pgs_cons (pg_name (i := 9) sc_l_worths_of.nd rfl (.inl rfl)) (pgs_cons (pg_name (i := 10) sc_l_worths_of.nd rfl (.inl rfl)) pgs_nil))))
 (pss_one (ps_expr (pe_bm PySem.F.plainAttrs_list PySem.F.slot_list_append PySem.F.type_list_append mt_append (pv 6) (pa_cons (pe_ix ix_list (pe_lst (pa_cons (pv 10) (pa_cons (pv 9) pa_nil))) (pe_callTy call_int1 (by rfl) T.z_int (by decide +kernel) (pa_cons (pe_cmpR op_eq (pv 5) pe_str (nomark _)) pa_nil)) (fun _ _ => rfl)) pa_nil))))))
 (pss_one (ps_ret (pv 6))))))))))), ?_⟩
    have m1 := ok.m1
    have ldm : (doorsL m ss).length = m := by unfold doorsL; rw [List.length_map, List.length_range]
    have dat : ∀ {j : Nat}, j < m → (doorsL m ss)[j]? = some (doorOf ss j) := fun {j} hj => by
      unfold doorsL
      rw [List.getElem?_map, List.getElem?_range hj]
      rfl
    have sq : SqT K H tr (.str r.word :: vs) := .inl (.inl htr)
    have at_ : ∀ {k : Nat}, k < i → ∃ u, fvs[k]? = some u ∧ IsFs H u (fs.getD k []) ∧ (fs.getD k []).length = m ∧ ∀ q ∈ fs.getD k [], Bd 1800 q := fun {k} hk => ⟨_, List.getElem?_eq_getElem (by omega), lv k _ (List.getElem?_eq_getElem (by omega))⟩
    refine ⟨_, rfl, tr, _, _, _, rfl, rfl, sq, atI_nat (j := 0) rfl, ?_⟩
    cases rok.shape with
    | one =>
      refine ⟨_, rfl, rfl, _, rfl, iteT ?_⟩
      refine ⟨by show 2 ≤ sizeLine; decide, fun t nt => ⟨by show 1 ≤ sizeLine; decide, fun q2 nq2 => ?_⟩⟩
      have s1 := same_upd (o := .tup [.int 1, .int 1]) nt
      have s2 := same_upd (o := .lst [.ref t]) nq2
      refine ⟨_, rfl, q2, _, _, rfl, rfl, upd_same, by omega, by omega, ?_, fun q3 nq3 => ?_⟩
      · show 1 * (m : Int).toNat ≤ sizeLine
        rw [Int.toNat_natCast]
        exact Nat.le_of_lt (small1000 (by omega))
      rw [Int.toNat_natCast, flat_rep1]
      have s3 := same_upd (o := .lst (List.replicate m (V.ref t))) nq3
      refine q _ _ (s1.trans (s2.trans s3)) ⟨q3, _, rfl, upd_same, .of_ix (by rw [List.length_replicate]; exact List.length_replicate.symm) fun j y hy => ?_⟩
      have hj := (List.getElem?_eq_some_iff.mp hy).1
      rw [List.length_replicate] at hj
      rw [(List.mem_replicate.mp (List.mem_of_getElem? hy)).2]
      refine ⟨1, ?_, t, rfl, s3 _ _ (s2 _ _ upd_same)⟩
      show (List.replicate m (1 : Rat))[j]? = _
      rw [List.getElem?_replicate, if_pos hj]
    | can z =>
      obtain ⟨v1, rfl, h1⟩ := rw_args1 av
      obtain rfl : v1 = .str z := h1
      have nz : NmOk z := rok.args (.sg z) (by simp)
      refine ⟨_, rfl, rfl, _, rfl, iteF ⟨_, rfl, rfl, _, rfl, iteT ?_⟩⟩
      refine ⟨_, rfl, m, rfl, by omega, by omega, fun D nD => lc_allW (walk_range (lo := 0) (n := (m : Int).toNat)) (fun j y G => SL G y (canV z (doorOf ss j))) (fun _ _ _ _ s h => h.mono s) nD (fun _ _ => trivial) (by omega) (fun j u H2 H3 kk hj s2 eD y hk => ?_) (fun H2 ys s2 e l2 r2 => ?_)⟩
      · obtain ⟨rfl, rfl⟩ := y
        rw [Int.toNat_natCast] at hj
        have ej : ((0 : Int) + (j : Int)) = ((j : Nat) : Int) := Int.zero_add _
        dsimp only
        rw [ej]
        have sH : Same H H3 := s2.trans hid_same
        have fin : ∀ (n : Nat) H4, Same H3 H4 → canV z (doorOf ss j) = ((n : Int) : Rat) → ∀ t, H4 t = none → kk (.ref t) (upd H4 t (.tup [.int (n : Int), .int 1])) := fun n H4 s4 en t nt => by
          have st := same_upd (o := .tup [.int (n : Int), .int 1]) nt
          have eD4 : ∃ ys, (upd H4 t (.tup [.int (n : Int), .int 1])) D = some (.lst ys) := by
            obtain ⟨ys', e'⟩ := eD
            exact ⟨ys', st _ _ (s4 _ _ e')⟩
          refine hk _ _ (s4.trans st) ?_
          rw [en]
          exact SL.hidL eD4 (tup_sl n upd_same)
        refine ⟨rfl, _, rfl, _, rfl, _, rfl, tr, _, _, _, rfl, rfl, .inl (.inl (sH _ _ htr)), atI_nat (j := 1) rfl, l, j, m, z, svs, ss, rfl, sH _ _ hl, sv.imp fun _ _ h => h.mono sH, ok, nz, fun st hst hr1 hs1 H4 wa s4 hwa => ?_, fun no H4 s4 => ?_⟩
        · refine ⟨rfl, .inr ⟨_, rfl, by show 2 ≤ sizeLine; decide, fun t nt => ?_⟩⟩
          subst hr1
          subst hs1
          refine fin 1 H4 s4 ?_ t nt
          unfold canV
          rw [sel_some ok.once hst]
          rfl
        · refine ⟨rfl, .inr ⟨_, rfl, by show 2 ≤ sizeLine; decide, fun t nt => ?_⟩⟩
          refine fin 0 H4 s4 ?_ t nt
          unfold canV
          rw [sel_none no]
          rfl
      · rw [Int.toNat_natCast] at l2
        refine q H2 _ (s2.trans hid_same) ⟨D, ys, rfl, e, .of_ix (by rw [l2]; show m = ((doorsL m ss).map (canV z)).length; rw [List.length_map, ldm]) fun j y hy => ?_⟩
        have hj := (List.getElem?_eq_some_iff.mp hy).1
        refine ⟨_, ?_, (r2 j y hy).mono hid_same⟩
        show ((doorsL m ss).map (canV z))[j]? = _
        rw [List.getElem?_map, dat (by omega)]
        rfl
    | on z k =>
      obtain ⟨v1, v2, rfl, h1, h2⟩ := rw_args2 av
      obtain rfl : v1 = .str z := h1
      obtain rfl : v2 = .int (k : Int) := h2
      have nz : NmOk z := rok.args (.sg z) (by simp)
      obtain ⟨u, hu, ⟨b, us, rfl, hb, au⟩, lf, bf⟩ := at_ (rok.args (.nu k) (by simp))
      refine ⟨_, rfl, rfl, _, rfl, iteF ⟨_, rfl, rfl, _, rfl, iteF ⟨_, rfl, rfl, _, rfl, iteT ?_⟩⟩⟩
      refine ⟨_, rfl, m, rfl, by omega, by omega, fun D nD => lc_allW (walk_range (lo := 0) (n := (m : Int).toNat)) (fun j y G => SL G y (Rat.divInt (kf : Int) (df : Int) * stepV z (doorOf ss j) (fs.getD k []))) (fun _ _ _ _ s h => h.mono s) nD (fun _ _ => trivial) (by omega) (fun j u H2 H3 kk hj s2 eD y hk => ?_) (fun H2 ys s2 e l2 r2 => ?_)⟩
      · obtain ⟨rfl, rfl⟩ := y
        rw [Int.toNat_natCast] at hj
        have ej : ((0 : Int) + (j : Int)) = ((j : Nat) : Int) := Int.zero_add _
        dsimp only
        rw [ej]
        have sH : Same H H3 := s2.trans hid_same
        have sq3 : SqT K H3 tr [.str "on", .str z, .int (k : Int)] := .inl (.inl (sH _ _ htr))
        refine ⟨rfl, _, rfl, _, rfl, _, rfl, _, rfl, tr, _, _, _, rfl, rfl, sq3, atI_nat (j := 1) rfl, _, rfl, _, rfl, tr, _, _, _, rfl, rfl, sq3, atI_nat (j := 2) rfl, F, _, _, _, rfl, rfl, SqL.of (sH _ _ hF), atI_nat hu, fv, l, b, kf, df, j, m, z, svs, us, ss, _, rfl, IsTup2.mono hf sH, d1, kd, d102, sH _ _ hl, sv.imp fun _ _ h => h.mono sH, ok, nz, m4, sl, sH _ _ hb, au.imp fun _ _ h => h.mono sH, lf, bf, fun H4 v4 s4 h4 => ?_⟩
        have eD4 : ∃ ys, H4 D = some (.lst ys) := by
          obtain ⟨ys', e'⟩ := eD
          exact ⟨ys', s4 _ _ e'⟩
        exact hk _ _ s4 (SL.hidL eD4 h4)
      · rw [Int.toNat_natCast] at l2
        refine q H2 _ (s2.trans hid_same) ⟨D, ys, rfl, e, .of_ix (by rw [l2]; show m = (List.map _ (doorsL m ss)).length; rw [List.length_map, ldm]) fun j y hy => ?_⟩
        have hj := (List.getElem?_eq_some_iff.mp hy).1
        refine ⟨_, ?_, (r2 j y hy).mono hid_same⟩
        show ((doorsL m ss).map _)[j]? = _
        rw [List.getElem?_map, dat (by omega)]
        rfl
    | no k =>
      obtain ⟨v1, rfl, h1⟩ := rw_args1 av
      obtain rfl : v1 = .int (k : Int) := h1
      obtain ⟨u, hu, ⟨b, us, rfl, hb, au⟩, lf, bf⟩ := at_ (rok.args (.nu k) (by simp))
      refine ⟨_, rfl, rfl, _, rfl, iteF ⟨_, rfl, rfl, _, rfl, iteF ⟨_, rfl, rfl, _, rfl, iteF ⟨_, rfl, rfl, _, rfl, iteT ?_⟩⟩⟩⟩
      refine ⟨_, rfl, _, rfl, tr, _, _, _, rfl, rfl, sq, atI_nat (j := 1) rfl, F, _, _, _, rfl, rfl, SqL.of hF, atI_nat hu, b, rfl, ⟨_, SqL.of hb⟩, fun D nD => lc_allW (walk_list (K := K) (a := b) (xs := us)) (fun j y G => ∃ q1, (fs.getD k [])[j]? = some q1 ∧ SL G y (1 - q1)) (fun _ _ _ _ s h => h.elim fun q1 f => ⟨q1, f.1, f.2.mono s⟩) nD (fun H' s => SqL.of (s _ _ hb)) (by rw [au.1]; omega) (fun j u H2 H3 kk hj s2 eD y hk => ?_) (fun H2 ys s2 e l2 r2 => ?_)⟩
      · obtain ⟨rfl, hv⟩ := y
        obtain ⟨q1, hq1, f1⟩ := au.at hv
        have sH : Same H H3 := s2.trans hid_same
        refine ⟨rfl, by show 2 ≤ sizeLine; decide, fun t nt => ?_⟩
        have st := same_upd (o := .tup [.int 1, .int 1]) nt
        refine ⟨_, rfl, .ref t, _, 1, q1, rfl, ⟨t, rfl, upd_same⟩, f1.mono (sH.trans st), bd1.mono (by decide), (bf q1 (List.mem_of_getElem? hq1)).mono (by decide), fun H4 v4 s4 h4 => ?_⟩
        have eD4 : ∃ ys, H4 D = some (.lst ys) := by
          obtain ⟨ys', e'⟩ := eD
          exact ⟨ys', s4 _ _ (st _ _ e')⟩
        exact hk _ _ (st.trans s4) ⟨q1, hq1, SL.hidL eD4 h4⟩
      · refine q H2 _ (s2.trans hid_same) ⟨D, ys, rfl, e, .of_ix (by rw [l2, au.1]; show _ = (List.map _ (fs.getD k [])).length; rw [List.length_map]) fun j y hy => ?_⟩
        obtain ⟨q1, hq1, f1⟩ := r2 j y hy
        refine ⟨_, ?_, f1.mono hid_same⟩
        show ((fs.getD k []).map (1 - ·))[j]? = _
        rw [List.getElem?_map, hq1]
        rfl
    | less k qq =>
      obtain ⟨v1, v2, rfl, h1, h2⟩ := rw_args2 av
      obtain rfl : v1 = .int (k : Int) := h1
      have h2 : SL H v2 qq := h2
      obtain ⟨o1, o2, ub⟩ : ArgOk i (.sh qq) := rok.args _ (by simp)
      obtain ⟨u, hu, ⟨b, us, rfl, hb, au⟩, lf, bf⟩ := at_ (rok.args (.nu k) (by simp))
      refine ⟨_, rfl, rfl, _, rfl, iteF ⟨_, rfl, rfl, _, rfl, iteF ⟨_, rfl, rfl, _, rfl, iteF ⟨_, rfl, rfl, _, rfl, iteF ⟨_, rfl, rfl, _, rfl, iteT ?_⟩⟩⟩⟩⟩
      refine ⟨_, rfl, _, rfl, tr, _, _, _, rfl, rfl, sq, atI_nat (j := 1) rfl, F, _, _, _, rfl, rfl, SqL.of hF, atI_nat hu, b, rfl, ⟨_, SqL.of hb⟩, fun D nD => lc_allW (walk_list (K := K) (a := b) (xs := us)) (fun j y G => ∃ q1, (fs.getD k [])[j]? = some q1 ∧ SL G y (lesR q1 qq)) (fun _ _ _ _ s h => h.elim fun q1 f => ⟨q1, f.1, f.2.mono s⟩) nD (fun H' s => SqL.of (s _ _ hb)) (by rw [au.1]; omega) (fun j u H2 H3 kk hj s2 eD y hk => ?_) (fun H2 ys s2 e l2 r2 => ?_)⟩
      · obtain ⟨rfl, hv⟩ := y
        obtain ⟨q1, hq1, f1⟩ := au.at hv
        have sH : Same H H3 := s2.trans hid_same
        have sq3 : SqT K H3 tr [.str "less", .int (k : Int), v2] := .inl (.inl (sH _ _ htr))
        have b1 := (bf q1 (List.mem_of_getElem? hq1)).mono (show 1800 ≤ 2000 by decide)
        have b2 := ub.mono (show 100 ≤ 2000 by decide)
        refine ⟨rfl, _, rfl, tr, _, _, _, rfl, rfl, sq3, atI_nat (j := 2) rfl, _, rfl, v2, _, qq, q1, rfl, h2.mono sH, f1.mono sH, b2, b1, _, rfl, ?_⟩
        by_cases hlt : qq < q1
        · rw [decide_eq_true hlt]
          refine iteT ⟨_, rfl, _, rfl, tr, _, _, _, rfl, rfl, sq3, atI_nat (j := 2) rfl, _, v2, q1, qq, rfl, f1.mono sH, h2.mono sH, b1, b2, fun H4 v4 s4 h4 => ?_⟩
          have eD4 : ∃ ys, H4 D = some (.lst ys) := by
            obtain ⟨ys', e'⟩ := eD
            exact ⟨ys', s4 _ _ e'⟩
          refine hk _ _ s4 ⟨q1, hq1, ?_⟩
          unfold lesR
          rw [if_pos hlt]
          exact SL.hidL eD4 h4
        · rw [decide_eq_false hlt]
          refine iteF ⟨by show 2 ≤ sizeLine; decide, fun t nt => ?_⟩
          have st := same_upd (o := .tup [.int 0, .int 1]) nt
          have eD4 : ∃ ys, (upd H3 t (.tup [.int 0, .int 1])) D = some (.lst ys) := by
            obtain ⟨ys', e'⟩ := eD
            exact ⟨ys', st _ _ e'⟩
          refine hk _ _ st ⟨q1, hq1, ?_⟩
          unfold lesR
          rw [if_neg hlt]
          exact SL.hidL eD4 ⟨t, rfl, upd_same⟩
      · refine q H2 _ (s2.trans hid_same) ⟨D, ys, rfl, e, .of_ix (by rw [l2, au.1]; show _ = (List.map _ (fs.getD k [])).length; rw [List.length_map]) fun j y hy => ?_⟩
        obtain ⟨q1, hq1, f1⟩ := r2 j y hy
        refine ⟨_, ?_, f1.mono hid_same⟩
        show ((fs.getD k []).map (lesR · qq))[j]? = _
        rw [List.getElem?_map, hq1]
        rfl
    | both k j =>
      obtain ⟨v1, v2, rfl, h1, h2⟩ := rw_args2 av
      obtain rfl : v1 = .int (k : Int) := h1
      obtain rfl : v2 = .int (j : Int) := h2
      obtain ⟨u, hu, ⟨b, us, rfl, hb, au⟩, lf, bf⟩ := at_ (rok.args (.nu k) (by simp))
      obtain ⟨u', hu', ⟨b', us', rfl, hb', au'⟩, lf', bf'⟩ := at_ (rok.args (.nu j) (by simp))
      refine ⟨_, rfl, rfl, _, rfl, iteF ⟨_, rfl, rfl, _, rfl, iteF ⟨_, rfl, rfl, _, rfl, iteF ⟨_, rfl, rfl, _, rfl, iteF ⟨_, rfl, rfl, _, rfl, iteF ?_⟩⟩⟩⟩⟩
      refine ⟨Nat.zero_le _, fun S nS => ?_⟩
      have s0 := same_upd (o := .lst []) nS
      have sq0 : SqT K (upd H S (.lst [])) tr [.str "both", .int (k : Int), .int (j : Int)] := .inl (.inl (s0 _ _ htr))
      refine ⟨_, rfl, _, rfl, tr, _, _, _, rfl, rfl, sq0, atI_nat (j := 1) rfl, F, _, _, _, rfl, rfl, SqL.of (s0 _ _ hF), atI_nat hu, _, rfl, _, rfl, tr, _, _, _, rfl, rfl, sq0, atI_nat (j := 2) rfl, F, _, _, _, rfl, rfl, SqL.of (s0 _ _ hF), atI_nat hu', b, b', us, us', rfl, SqL.of (s0 _ _ hb), SqL.of (s0 _ _ hb'), for_it (walk_zip (K := K) (a := b) (b := b') (xs := us) (ys := us') (n := m) (by rw [au.1, au'.1, lf, lf', Nat.min_self])) (fun n σ H' => ∃ (y7 y8 y9 y10 y11 : Option V) (ys : List V), σ = [some (.ref tr), some fv, some (.int m), some (.ref l), some (.ref F), some (.str "both"), some (.ref S), y7, y8, y9, y10, y11] ∧ Same H H' ∧ H' S = some (.lst ys) ∧ ys.length = n ∧ ∀ (i : Nat) y, ys[i]? = some y → ∃ q1 q2, (fs.getD k [])[i]? = some q1 ∧ (fs.getD j [])[i]? = some q2 ∧ SL H' y (minR q1 q2)) ⟨_, _, _, _, _, [], rfl, s0, upd_same, rfl, fun i y h => by cases h⟩ (fun n σ H' _ h => ?_) (fun n w σ H1 H2 hn h y => ?_) (fun σ H' h => ?_)⟩
      · obtain ⟨_, _, _, _, _, _, _, s1, _⟩ := h
        exact ⟨SqL.of (s1 _ _ hb), SqL.of (s1 _ _ hb')⟩
      · obtain ⟨y7, y8, y9, y10, y11, ys, rfl, s1, eS, ly, iy⟩ := h
        obtain ⟨t2, xa, xb, rfl, nt2, rfl, exa, exb⟩ := y
        obtain ⟨q1, hq1, f1⟩ := au.at (show us[n]? = some xa from exa)
        obtain ⟨q2, hq2, f2⟩ := au'.at (show us'[n]? = some xb from exb)
        have st2 := same_upd (o := .tup [xa, xb]) nt2
        have b1 := (bf q1 (List.mem_of_getElem? hq1)).mono (show 1800 ≤ 2000 by decide)
        have b2 := (bf' q2 (List.mem_of_getElem? hq2)).mono (show 1800 ≤ 2000 by decide)
        refine ⟨t2, _, rfl, .inl (.inl upd_same), rfl, _, _, rfl, _, _, rfl, rfl, ?_⟩
        have s12 := s1.trans st2
        have g1 := f1.mono s12
        have g2 := f2.mono s12
        have eS2 := st2 _ _ eS
        generalize upd H1 t2 (.tup [xa, xb]) = H2 at *
        -- the end of a turn
        have fin : ∀ (v : V) (H3 : Hp), Same H2 H3 → SL H3 v (minR q1 q2) → Same H (upd H3 S (.lst (ys ++ [v]))) ∧ (upd H3 S (.lst (ys ++ [v]))) S = some (.lst (ys ++ [v])) ∧ (ys ++ [v]).length = n + 1 ∧ ∀ (i : Nat) y, (ys ++ [v])[i]? = some y → ∃ q1 q2, (fs.getD k [])[i]? = some q1 ∧ (fs.getD j [])[i]? = some q2 ∧ SL (upd H3 S (.lst (ys ++ [v]))) y (minR q1 q2) := fun v H3 s3 hv => by
          have eS3 := s3 _ _ eS2
          refine ⟨same_over (s12.trans s3) nS, upd_same, by rw [List.length_append, ly]; rfl, fun i y hy => ?_⟩
          by_cases hi : i < n
          · rw [List.getElem?_append_left (by omega)] at hy
            obtain ⟨p1, p2, e1, e2, e3⟩ := iy i y hy
            exact ⟨p1, p2, e1, e2, SL.put eS3 (e3.mono (st2.trans s3))⟩
          · have hl := (List.getElem?_eq_some_iff.mp hy).1
            rw [List.length_append, ly] at hl
            have hl : i < n + 1 := hl
            obtain rfl : i = n := by omega
            rw [← ly, List.getElem?_concat_length] at hy
            cases hy
            exact ⟨q1, q2, hq1, hq2, SL.put eS3 hv⟩
        refine ⟨_, rfl, _, rfl, xa, xb, q1, q2, rfl, g1, g2, b1, b2, _, rfl, ?_⟩
        by_cases hlt : q1 < q2
        · rw [decide_eq_true hlt]
          refine iteT ⟨_, rfl, _, rfl, by show 2 ≤ sizeLine; decide, fun t3 nt3 => ?_⟩
          have s3 := same_upd (o := .tup [xa, xb]) nt3
          refine ⟨t3, _, rfl, .inl (.inl upd_same), rfl, _, _, rfl, _, _, rfl, rfl, ?_⟩
          refine ⟨_, rfl, .inl ⟨rfl, _, SqL.of (s3 _ _ eS2)⟩, _, rfl, _, rfl, by show 2 ≤ sizeLine; decide, fun c nc => ?_⟩
          have s4 := same_upd (o := .lst [xb, xa]) nc
          refine ⟨_, rfl, rfl, .inr ⟨_, rfl, c, _, _, xa, rfl, rfl, SqL.of upd_same, atI_nat (j := 1) rfl, S, _, _, rfl, rfl, s4 _ _ (s3 _ _ eS2), small1000 (by omega), ?_⟩⟩
          obtain ⟨z1, z2, z3, z4⟩ := fin xa _ (s3.trans s4) (by
            have e : minR q1 q2 = q1 := if_pos hlt
            rw [e]
            exact g1.mono (s3.trans s4))
          exact ⟨_, _, _, _, _, _, rfl, z1, z2, z3, z4⟩
        · rw [decide_eq_false hlt]
          refine iteF ⟨_, rfl, _, rfl, by show 2 ≤ sizeLine; decide, fun t3 nt3 => ?_⟩
          have s3 := same_upd (o := .tup [xb, xa]) nt3
          refine ⟨t3, _, rfl, .inl (.inl upd_same), rfl, _, _, rfl, _, _, rfl, rfl, ?_⟩
          refine ⟨_, rfl, .inl ⟨rfl, _, SqL.of (s3 _ _ eS2)⟩, _, rfl, _, rfl, by show 2 ≤ sizeLine; decide, fun c nc => ?_⟩
          have s4 := same_upd (o := .lst [xa, xb]) nc
          refine ⟨_, rfl, rfl, .inr ⟨_, rfl, c, _, _, xb, rfl, rfl, SqL.of upd_same, atI_nat (j := 1) rfl, S, _, _, rfl, rfl, s4 _ _ (s3 _ _ eS2), small1000 (by omega), ?_⟩⟩
          obtain ⟨z1, z2, z3, z4⟩ := fin xb _ (s3.trans s4) (by
            have e : minR q1 q2 = q2 := if_neg hlt
            rw [e]
            exact g2.mono (s3.trans s4))
          exact ⟨_, _, _, _, _, _, rfl, z1, z2, z3, z4⟩
      · obtain ⟨y7, y8, y9, y10, y11, ys, rfl, s1, eS, ly, iy⟩ := h
        refine ⟨_, rfl, q H' _ s1 ⟨S, ys, rfl, eS, .of_ix (by rw [ly]; show m = (List.zipWith _ _ _).length; rw [List.length_zipWith, lf, lf', Nat.min_self]) fun i y hy => ?_⟩⟩
        obtain ⟨q1, q2, h1, h2, h3⟩ := iy i y hy
        refine ⟨minR q1 q2, ?_, h3⟩
        show (List.zipWith minR (fs.getD k []) (fs.getD j []))[i]? = _
        rw [List.getElem?_zipWith, h1, h2]
    | either k j =>
      obtain ⟨v1, v2, rfl, h1, h2⟩ := rw_args2 av
      obtain rfl : v1 = .int (k : Int) := h1
      obtain rfl : v2 = .int (j : Int) := h2
      obtain ⟨u, hu, ⟨b, us, rfl, hb, au⟩, lf, bf⟩ := at_ (rok.args (.nu k) (by simp))
      obtain ⟨u', hu', ⟨b', us', rfl, hb', au'⟩, lf', bf'⟩ := at_ (rok.args (.nu j) (by simp))
      refine ⟨_, rfl, rfl, _, rfl, iteF ⟨_, rfl, rfl, _, rfl, iteF ⟨_, rfl, rfl, _, rfl, iteF ⟨_, rfl, rfl, _, rfl, iteF ⟨_, rfl, rfl, _, rfl, iteF ?_⟩⟩⟩⟩⟩
      refine ⟨Nat.zero_le _, fun S nS => ?_⟩
      have s0 := same_upd (o := .lst []) nS
      have sq0 : SqT K (upd H S (.lst [])) tr [.str "either", .int (k : Int), .int (j : Int)] := .inl (.inl (s0 _ _ htr))
      refine ⟨_, rfl, _, rfl, tr, _, _, _, rfl, rfl, sq0, atI_nat (j := 1) rfl, F, _, _, _, rfl, rfl, SqL.of (s0 _ _ hF), atI_nat hu, _, rfl, _, rfl, tr, _, _, _, rfl, rfl, sq0, atI_nat (j := 2) rfl, F, _, _, _, rfl, rfl, SqL.of (s0 _ _ hF), atI_nat hu', b, b', us, us', rfl, SqL.of (s0 _ _ hb), SqL.of (s0 _ _ hb'), for_it (walk_zip (K := K) (a := b) (b := b') (xs := us) (ys := us') (n := m) (by rw [au.1, au'.1, lf, lf', Nat.min_self])) (fun n σ H' => ∃ (y7 y8 y9 y10 y11 : Option V) (ys : List V), σ = [some (.ref tr), some fv, some (.int m), some (.ref l), some (.ref F), some (.str "either"), some (.ref S), y7, y8, y9, y10, y11] ∧ Same H H' ∧ H' S = some (.lst ys) ∧ ys.length = n ∧ ∀ (i : Nat) y, ys[i]? = some y → ∃ q1 q2, (fs.getD k [])[i]? = some q1 ∧ (fs.getD j [])[i]? = some q2 ∧ SL H' y (maxR q1 q2)) ⟨_, _, _, _, _, [], rfl, s0, upd_same, rfl, fun i y h => by cases h⟩ (fun n σ H' _ h => ?_) (fun n w σ H1 H2 hn h y => ?_) (fun σ H' h => ?_)⟩
      · obtain ⟨_, _, _, _, _, _, _, s1, _⟩ := h
        exact ⟨SqL.of (s1 _ _ hb), SqL.of (s1 _ _ hb')⟩
      · obtain ⟨y7, y8, y9, y10, y11, ys, rfl, s1, eS, ly, iy⟩ := h
        obtain ⟨t2, xa, xb, rfl, nt2, rfl, exa, exb⟩ := y
        obtain ⟨q1, hq1, f1⟩ := au.at (show us[n]? = some xa from exa)
        obtain ⟨q2, hq2, f2⟩ := au'.at (show us'[n]? = some xb from exb)
        have st2 := same_upd (o := .tup [xa, xb]) nt2
        have b1 := (bf q1 (List.mem_of_getElem? hq1)).mono (show 1800 ≤ 2000 by decide)
        have b2 := (bf' q2 (List.mem_of_getElem? hq2)).mono (show 1800 ≤ 2000 by decide)
        refine ⟨t2, _, rfl, .inl (.inl upd_same), rfl, _, _, rfl, _, _, rfl, rfl, ?_⟩
        have s12 := s1.trans st2
        have g1 := f1.mono s12
        have g2 := f2.mono s12
        have eS2 := st2 _ _ eS
        generalize upd H1 t2 (.tup [xa, xb]) = H2 at *
        -- the end of a turn
        have fin : ∀ (v : V) (H3 : Hp), Same H2 H3 → SL H3 v (maxR q1 q2) → Same H (upd H3 S (.lst (ys ++ [v]))) ∧ (upd H3 S (.lst (ys ++ [v]))) S = some (.lst (ys ++ [v])) ∧ (ys ++ [v]).length = n + 1 ∧ ∀ (i : Nat) y, (ys ++ [v])[i]? = some y → ∃ q1 q2, (fs.getD k [])[i]? = some q1 ∧ (fs.getD j [])[i]? = some q2 ∧ SL (upd H3 S (.lst (ys ++ [v]))) y (maxR q1 q2) := fun v H3 s3 hv => by
          have eS3 := s3 _ _ eS2
          refine ⟨same_over (s12.trans s3) nS, upd_same, by rw [List.length_append, ly]; rfl, fun i y hy => ?_⟩
          by_cases hi : i < n
          · rw [List.getElem?_append_left (by omega)] at hy
            obtain ⟨p1, p2, e1, e2, e3⟩ := iy i y hy
            exact ⟨p1, p2, e1, e2, SL.put eS3 (e3.mono (st2.trans s3))⟩
          · have hl := (List.getElem?_eq_some_iff.mp hy).1
            rw [List.length_append, ly] at hl
            have hl : i < n + 1 := hl
            obtain rfl : i = n := by omega
            rw [← ly, List.getElem?_concat_length] at hy
            cases hy
            exact ⟨q1, q2, hq1, hq2, SL.put eS3 hv⟩
        refine ⟨_, rfl, _, rfl, xa, xb, q1, q2, rfl, g1, g2, b1, b2, _, rfl, ?_⟩
        by_cases hlt : q1 < q2
        · rw [decide_eq_true hlt]
          refine iteT ⟨_, rfl, _, rfl, by show 2 ≤ sizeLine; decide, fun t3 nt3 => ?_⟩
          have s3 := same_upd (o := .tup [xa, xb]) nt3
          refine ⟨t3, _, rfl, .inl (.inl upd_same), rfl, _, _, rfl, _, _, rfl, rfl, ?_⟩
          refine ⟨_, rfl, .inl ⟨rfl, _, SqL.of (s3 _ _ eS2)⟩, _, rfl, _, rfl, by show 2 ≤ sizeLine; decide, fun c nc => ?_⟩
          have s4 := same_upd (o := .lst [xb, xa]) nc
          refine ⟨_, rfl, rfl, .inr ⟨_, rfl, c, _, _, xb, rfl, rfl, SqL.of upd_same, atI_nat (j := 0) rfl, S, _, _, rfl, rfl, s4 _ _ (s3 _ _ eS2), small1000 (by omega), ?_⟩⟩
          obtain ⟨z1, z2, z3, z4⟩ := fin xb _ (s3.trans s4) (by
            have e : maxR q1 q2 = q2 := if_pos hlt
            rw [e]
            exact g2.mono (s3.trans s4))
          exact ⟨_, _, _, _, _, _, rfl, z1, z2, z3, z4⟩
        · rw [decide_eq_false hlt]
          refine iteF ⟨_, rfl, _, rfl, by show 2 ≤ sizeLine; decide, fun t3 nt3 => ?_⟩
          have s3 := same_upd (o := .tup [xb, xa]) nt3
          refine ⟨t3, _, rfl, .inl (.inl upd_same), rfl, _, _, rfl, _, _, rfl, rfl, ?_⟩
          refine ⟨_, rfl, .inl ⟨rfl, _, SqL.of (s3 _ _ eS2)⟩, _, rfl, _, rfl, by show 2 ≤ sizeLine; decide, fun c nc => ?_⟩
          have s4 := same_upd (o := .lst [xa, xb]) nc
          refine ⟨_, rfl, rfl, .inr ⟨_, rfl, c, _, _, xa, rfl, rfl, SqL.of upd_same, atI_nat (j := 0) rfl, S, _, _, rfl, rfl, s4 _ _ (s3 _ _ eS2), small1000 (by omega), ?_⟩⟩
          obtain ⟨z1, z2, z3, z4⟩ := fin xa _ (s3.trans s4) (by
            have e : maxR q1 q2 = q1 := if_neg hlt
            rw [e]
            exact g1.mono (s3.trans s4))
          exact ⟨_, _, _, _, _, _, rfl, z1, z2, z3, z4⟩
      · obtain ⟨y7, y8, y9, y10, y11, ys, rfl, s1, eS, ly, iy⟩ := h
        refine ⟨_, rfl, q H' _ s1 ⟨S, ys, rfl, eS, .of_ix (by rw [ly]; show m = (List.zipWith _ _ _).length; rw [List.length_zipWith, lf, lf', Nat.min_self]) fun i y hy => ?_⟩⟩
        obtain ⟨q1, q2, h1, h2, h3⟩ := iy i y hy
        refine ⟨maxR q1 q2, ?_, h3⟩
        show (List.zipWith maxR (fs.getD k []) (fs.getD j []))[i]? = _
        rw [List.getElem?_zipWith, h1, h2]
end

end Fb

namespace Fb
open PySem PySem.Spec PyProof.Rows L2
section
variable {P : Program} {w : World} {K : PySem.W.Frag} {mg : Str → Option Value} {base : Heap}
theorem rw_ts {H : Hp} {a pf : Addr} {xs ys : List V} (pfa : pf ≠ a) (e : hid a H pf = some (.lst xs)) {x : V} {r : Rw} (h : IsRw SL (hid a H) x r) : IsRw SL (hid a (upd H pf (.lst ys))) x r := by
  obtain ⟨t, vs, ex, ht, av⟩ := h
  have ne : t ≠ pf := fun z => by
    rw [z, e] at ht
    cases ht
  refine ⟨t, vs, ex, by rw [hid_updN pfa, upd_ne ne]; exact ht, av.imp fun v' a' h' => ?_⟩
  cases a' with
  | sg z => exact h'
  | nu n => exact h'
  | sh qq =>
    obtain ⟨p', e', h'⟩ := h'
    have ne' : p' ≠ pf := fun z => by
      rw [z, e] at h'
      cases h'
    exact ⟨p', e', by rw [hid_updN pfa, upd_ne ne']; exact h'⟩
theorem onc_snoc (rs : List Rw) (r : Rw) : onc (rs ++ [r]) = onc rs + if r.word = "on" then 1 else 0 := by
  unfold onc
  rw [List.filter_append, List.length_append, List.filter_cons]
  congr 1
  by_cases e : r.word = "on"
  · rw [if_pos e, if_pos (by simpa using e)]
    rfl
  · rw [if_neg e, if_neg (by simpa using e)]
    rfl
def spDbl : Sp := fun vs H Q _ => ∃ (a p : Addr) (xs : List V) (rs : List Rw) (n : Nat), vs = [.ref a, .ref p, .int 60] ∧ WellAt H a (n + 60) ∧ hid a H p = some (.lst xs) ∧ AllAre (IsRw SL (hid a H)) xs rs ∧ BkOk rs ∧ rs ≠ [] ∧ rs.length ≤ 14 ∧
  ∀ H' b ys rs', BkOk rs' → rs' ≠ [] → rs'.length ≤ 74 → onc rs' = onc rs → lec rs' = lec rs → Same (hid a H) (hid a H') → WellAt H' a n → hid a H' b = some (.lst ys) → AllAre (IsRw SL (hid a H')) ys rs' → Q (.ref b) H'
theorem ok_l_doubled (T : Txt K mg) : FnOk P w K mg base CX0 2 T.f_l_doubled T.d_l_doubled ["_law_well_here", "_law_rows_here", "_law_many"] spDbl := by
  refine T.F_l_doubled.ok sc_l_doubled (fun vs H Q E h => ?_) (fun cdv A outer s H vs Q E hr h => ?_)
  · obtain ⟨a, p, xs, rs, n, rfl, _⟩ := h
    rfl
  · obtain ⟨a, p, xs, rs, n, rfl, w0, hp, av, bk0, ne0, l14, q⟩ := h
    refine ⟨_, (pss_cons (ps_set (i := 3) sc_l_doubled.nd rfl (.inl rfl) (pe_callTy call_list_of (by rfl) T.z_list (by decide +kernel) (pa_cons (pv 1) pa_nil)))
 (pss_cons (ps_for PassesOwn.never rfl (pi_range1 (by rfl) T.z_range (pa_cons (pv 2) pa_nil)) (pg_name (i := 4) sc_l_doubled.nd rfl (.inl rfl))
  (pss_one (ps_expr (pe_bm PySem.F.plainAttrs_list PySem.F.slot_list_append PySem.F.type_list_append mt_append (pv 3) (pa_cons (pe_tup (pa_cons (pe_ix ix_list (pe_lst (pa_cons pe_str (pa_cons pe_str pa_nil))) (pe_call (ok_l_draw T) (hr.mono (by decide)) (by rfl) T.g_l_draw T.F_l_draw.kp T.b_l_draw .nil pass0 (pa_cons (pv 0) (pa_cons pe_int pa_nil))) (fun _ _ => rfl)) (pa_cons (pe_op op_sub (pe_callB call_len_seq (by rfl) T.z_len (by decide +kernel) (pa_cons (pv 3) pa_nil)) pe_int) (pa_cons (pe_op op_sub (pe_callB call_len_seq (by rfl) T.z_len (by decide +kernel) (pa_cons (pv 3) pa_nil)) pe_int) pa_nil)))) pa_nil)))))
 (pss_one (ps_ret (pv 3))))), ?_⟩
    refine ⟨_, rfl, p, _, rfl, .inl (SqL.of (hid_same _ _ hp)), fun pf nf => ?_⟩
    obtain ⟨w1, s1, f1⟩ := alloc (o := .lst xs) w0 nf
    have pfa : pf ≠ a := w0.ne nf
    have nfh : hid a H pf = none := by rw [hid_ne pfa]; exact nf
    refine ⟨_, rfl, 60, rfl, by decide, by decide, ?_⟩
    refine for_range (lo := 0) (n := (60 : Int).toNat) (tb := _) (D := { nx := tRet (tVar 3) { nx := fun _ H' => Q .non H', rt := Q }, rt := Q }) (fun j σ H' => ∃ (y : Option V) (ys : List V) (rs' : List Rw), σ = [some (.ref a), some (.ref p), some (.int 60), some (.ref pf), y] ∧ Same (hid a H) (hid a H') ∧ WellAt H' a (n + (60 - j)) ∧ hid a H' pf = some (.lst ys) ∧ AllAre (IsRw SL (hid a H')) ys rs' ∧ BkOk rs' ∧ rs'.length = rs.length + j ∧ onc rs' = onc rs ∧ lec rs' = lec rs) ⟨none, xs, rs, rfl, s1, w1, f1, av.imp fun _ _ h => h.mono SL.m s1, bk0, rfl, rfl, rfl⟩ (fun j σ H3 hj h => ?_) (fun σ H3 h => ?_)
    · obtain ⟨y, ys, rs', rfl, s3, w3, e3, a3, bk, lr, lo, le⟩ := h
      have hj : j < 60 := hj
      have l0 : 0 < rs.length := by
        cases rs with
        | nil => exact absurd rfl ne0
        | cons _ _ => simp
      have ly : ys.length = rs'.length := a3.1
      have e3' : H3 pf = some (.lst ys) := hid_same _ _ e3
      refine ⟨_, rfl, .inl ⟨rfl, _, SqL.of e3'⟩, by show 2 ≤ sizeLine; decide, fun c nc => ?_⟩
      obtain ⟨w4, s4, fc⟩ := alloc (o := .lst [.str "both", .str "either"]) w3 nc
      refine ⟨_, rfl, a, 2, n + (60 - (j + 1)), rfl, w4.mono (by omega), by decide, by decide, fun d H5 d0 d1 s5 w5 => ?_⟩
      obtain ⟨zz, hz, fz, z1, z2⟩ : ∃ zz : Str, atI [V.str "both", V.str "either"] d = some (.str zz) ∧ (zz, (["number", "number"] : List Str)) ∈ forms ∧ zz ≠ "on" ∧ zz ≠ "less" := by
        have : d = 0 ∨ d = 1 := by omega
        rcases this with rfl | rfl
        · exact ⟨"both", atI_nat (j := 0) rfl, f_both, by decide +kernel, by decide +kernel⟩
        · exact ⟨"either", atI_nat (j := 1) rfl, f_either, by decide +kernel, by decide +kernel⟩
      have fc5 := hid_same _ _ (s5 _ _ fc)
      have e5 : hid a H5 pf = some (.lst ys) := s5 _ _ (s4 _ _ e3)
      have e5' : H5 pf = some (.lst ys) := hid_same _ _ e5
      refine ⟨c, _, _, _, rfl, rfl, SqL.of fc5, hz, _, rfl, pf, _, rfl, .inl (SqL.of e5'), _, _, rfl, rfl, _, rfl, pf, _, rfl, .inl (SqL.of e5'), _, _, rfl, rfl, by show 3 ≤ sizeLine; decide, fun t nt => ?_⟩
      obtain ⟨w6, s6, ft⟩ := alloc (o := .tup [.str zz, .int ((ys.length : Nat) - 1 : Int), .int ((ys.length : Nat) - 1 : Int)]) w5 nt
      have e6 := s6 _ _ e5
      refine ⟨pf, _, _, rfl, rfl, hid_same _ _ e6, ?_, ?_⟩
      · exact small1000 (by omega)
      have s36 : Same (hid a H3) (hid a (upd H5 t (.tup [.str zz, .int ((ys.length : Nat) - 1 : Int), .int ((ys.length : Nat) - 1 : Int)]))) := s4.trans (s5.trans s6)
      have em : (((ys.length : Nat) : Int) - 1) = ((rs'.length - 1 : Nat) : Int) := by omega
      have row : IsRw SL (hid a (upd H5 t (.tup [.str zz, .int ((ys.length : Nat) - 1 : Int), .int ((ys.length : Nat) - 1 : Int)]))) (.ref t) ⟨zz, [.nu (rs'.length - 1), .nu (rs'.length - 1)]⟩ := rw2 ft (congrArg V.int em) (congrArg V.int em)
      refine ⟨_, ys ++ [.ref t], rs' ++ [⟨zz, [.nu (rs'.length - 1), .nu (rs'.length - 1)]⟩], rfl, ?_, ?_, ?_, ?_, bk.snoc (ok2 (i := rs'.length) (a := .nu (rs'.length - 1)) (a' := .nu (rs'.length - 1)) rfl rfl fz (by show rs'.length - 1 < rs'.length; omega) (by show rs'.length - 1 < rs'.length; omega)), by rw [List.length_append, lr]; rfl, by rw [onc_snoc, if_neg z1, lo]; rfl, by rw [lec_snoc, if_neg z2, le]; rfl⟩
      · rw [hid_updN pfa]
        exact same_over (s3.trans s36) nfh
      · obtain ⟨w0', w1', w2', ew, rest⟩ := w6
        exact ⟨w0', w1', w2', by rw [upd_ne pfa.symm]; exact ew, rest⟩
      · rw [hid_updN pfa]
        exact upd_same
      · exact AllAre.snoc (a3.imp fun _ _ h => rw_ts pfa e6 (h.mono SL.m s36)) (rw_ts pfa e6 row)
    · obtain ⟨y, ys, rs', rfl, s3, w3, e3, a3, bk, lr, lo, le⟩ := h
      have lr : rs'.length = rs.length + 60 := lr
      refine ⟨_, rfl, q H3 pf ys rs' bk (fun z => ?_) (by omega) lo le s3 (w3.mono (by omega)) e3 a3⟩
      rw [z] at lr
      simp at lr
/-! ### what rows begin with -/
def SF : ShR := fun _ _ _ => False
def IsHd (H : Hp) (y : V) (r : Rw) : Prop := ∃ t vs, y = .ref t ∧ H t = some (.tup (.str r.word :: vs)) ∧ AllAre (IsArg SF H) vs (r.args.take 1)
theorem IsHd.mono {H H' : Hp} {y : V} {r : Rw} (h : IsHd H y r) (s : Same H H') : IsHd H' y r := by
  obtain ⟨t, vs, e, ht, av⟩ := h
  exact ⟨t, vs, e, s _ _ ht, av.imp fun _ _ h => h.mono (fun _ _ _ _ _ z => z) s⟩
theorem first_plain {i : Nat} {r : Rw} (ok : RwOk i r) (q : Rat) : Arg.sh q ∉ r.args.take 1 := by
  cases ok.shape with
  | one => simp
  | can z => simp
  | on z n => simp
  | no n => simp
  | less n qq => simp
  | both n m => simp
  | either n m => simp
theorem plain_args {S : ShR} {H : Hp} {vs : List V} {l : List Arg} (h : AllAre (IsArg S H) vs l) (no : ∀ q, Arg.sh q ∉ l) : AllAre (IsArg SF H) vs l := .of_ix h.1 fun i y hy => by
  obtain ⟨a, ha, h⟩ := h.at hy
  refine ⟨a, ha, ?_⟩
  cases a with
  | sg z => exact h
  | nu n => exact h
  | sh q => exact absurd (List.mem_of_getElem? ha) (no q)
def spHeads : Sp := fun vs H Q _ => ∃ (S : ShR) (p : Addr) (xs : List V) (rs : List Rw), vs = [.ref p] ∧ ShM S ∧ H p = some (.lst xs) ∧ AllAre (IsRw S H) xs rs ∧ BkOk rs ∧ rs.length ≤ 300 ∧ ∀ H' b ys, Same H H' → H' b = some (.lst ys) → AllAre (IsHd H') ys rs → Q (.ref b) H'
theorem whole2 {xs : List V} : (HT.sIx xs.length 0 none = 0 ∧ HT.sIx xs.length xs.length (some (2 : Int)) = xs.length) ↔ xs.length ≤ 2 := by
  rw [HT.sIx_none, show (2 : Int) = ((2 : Nat) : Int) from rfl, HT.sIx_nat]
  omega
theorem ok_l_heads (T : Txt K mg) : FnOk P w K mg base CX0 1 T.f_l_heads T.d_l_heads ["_law_rows_here"] spHeads := by
  refine T.F_l_heads.ok sc_l_heads (fun vs H Q E h => ?_) (fun cdv A outer s H vs Q E hr h => ?_)
  · obtain ⟨S, p, xs, rs, rfl, _⟩ := h
    rfl
  · obtain ⟨S, p, xs, rs, rfl, hS, hp, av, ok, l3, q⟩ := h
    refine ⟨_, (pss_one (ps_ret (pe_lc (own := [("_law_row_here", 1)]) (g := (gName 1)) (tt := tYes) (by rfl) sc_l_heads.nd (pi_list (pv 0)) (blkOk_by (own := [("_law_row_here", 1)]) (N := ["_law_rows_here", "_law_row_here"]) (sc := defScope s_l_heads) (by decide +kernel)) (fun _ _ _ _ _ => by exact (pg_name (i := 1) sc_l_heads.nd rfl (.inl rfl))) (fun _ _ _ _ _ => by exact pts_nil) (fun _ _ _ _ _ => by exact (pe_slice (sl_tupAK (K := K) rfl) (pv 1) po_none (po_some pe_int)))))), ?_⟩
    refine ⟨_, rfl, p, rfl, ⟨_, SqL.of hp⟩, fun D nD => lc_allW (walk_list (K := K) (a := p) (xs := xs)) (fun i y G => ∃ r, rs[i]? = some r ∧ IsHd G y r) (fun _ _ _ _ s h => h.elim fun r f => ⟨r, f.1, f.2.mono s⟩) nD (fun H' s => SqL.of (s _ _ hp)) (by rw [av.1]; omega) (fun i x H2 H3 k hi s2 eD y hk => ?_) (fun H2 ys s2 e l h2 => ?_)⟩
    · obtain ⟨rfl, hv⟩ := y
      obtain ⟨r, hr', hx⟩ := av.at hv
      have rok := ok i r hr'
      obtain ⟨t, vs, rfl, ht, aa⟩ := hx.mono hS (s2.trans hid_same)
      refine ⟨rfl, _, rfl, 2, rfl, t, _, rfl, .inl (.inl ht), fun hwh => ?_, fun hwh c nc => ?_⟩
      · have h2 := whole2.mp hwh
        have l1 : vs.length ≤ 1 := by simpa using h2
        refine hk _ _ (Same.refl _) ⟨r, hr', t, vs, rfl, hid_no eD ht (fun _ => nofun), ?_⟩
        have ea : r.args.take 1 = r.args := List.take_of_length_le (by rw [← aa.1]; exact l1)
        have h3 : AllAre (IsArg SF H3) vs (r.args.take 1) := plain_args (by rw [ea]; exact aa) (first_plain rok)
        exact h3.imp fun v a h => by
          cases a with
          | sg z => exact h
          | nu n => exact h
          | sh q => exact h
      · have ec : cutV (.str r.word :: vs) none (some (2 : Int)) = .str r.word :: vs.take 1 := by
          rw [show (2 : Int) = ((2 : Nat) : Int) from rfl, cut_tok]
          rfl
        rw [ec]
        have sc := same_upd (o := .tup (.str r.word :: vs.take 1)) nc
        have eD' : ∃ ys, (upd H3 c (.tup (.str r.word :: vs.take 1))) D = some (.lst ys) := by
          obtain ⟨ys', e'⟩ := eD
          exact ⟨ys', sc _ _ e'⟩
        refine hk _ _ sc ⟨r, hr', c, vs.take 1, rfl, hid_no eD' upd_same (fun _ => nofun), ?_⟩
        have h3 : AllAre (IsArg SF H3) (vs.take 1) (r.args.take 1) := plain_args (aa.take 1) (first_plain rok)
        exact h3.imp fun v a h => by
          cases a with
          | sg z => exact h
          | nu n => exact h
          | sh q => exact h
    · refine q H2 D ys (s2.trans hid_same) e (.of_ix (by rw [l, av.1]) fun i y hy => ?_)
      obtain ⟨r, hr', h⟩ := h2 i y hy
      exact ⟨r, hr', h.mono hid_same⟩
/-! ### heads compared -/
def argD : Arg → PyData
  | .sg z => .str z
  | .nu n => .int (n : Int)
  | .sh _ => .none
def hdD (r : Rw) : PyData := .tuple (.str r.word :: (r.args.take 1).map argD)
theorem dp_args {H : Hp} : ∀ {vs : List V} {l : List Arg}, AllAre (IsArg SF H) vs l → DpAll K H vs (l.map argD)
  | [], [], _ => .nil
  | v :: vs, a :: l, h => by
    have h0 := h.2 0 v a rfl rfl
    refine .cons ?_ (dp_args ⟨by simpa using h.1, fun i a b h1 h2 => h.2 (i + 1) a b (by simpa using h1) (by simpa using h2)⟩)
    cases a with
    | sg z => obtain rfl : v = .str z := h0; exact .str _
    | nu n => obtain rfl : v = .int (n : Int) := h0; exact .int _
    | sh q => exact False.elim h0
  | [], _ :: _, h => by simp [AllAre] at h
  | _ :: _, [], h => by simp [AllAre] at h
theorem dp_hds {H : Hp} : ∀ {vs : List V} {l : List Rw}, AllAre (IsHd H) vs l → DpAll K H vs (l.map hdD)
  | [], [], _ => .nil
  | v :: vs, r :: l, h => by
    obtain ⟨t, us, rfl, ht, aa⟩ := h.2 0 v r rfl rfl
    exact .cons (.tup (.inl (.inl ht)) (.cons (.str _) (dp_args aa))) (dp_hds ⟨by simpa using h.1, fun i a b h1 h2 => h.2 (i + 1) a b (by simpa using h1) (by simpa using h2)⟩)
  | [], _ :: _, h => by simp [AllAre] at h
  | _ :: _, [], h => by simp [AllAre] at h
theorem lay_hd {i : Nat} {r : Rw} (ok : RwOk i r) : PyData.canLay0 (hdD r) = true ∧ PyData.depth (hdD r) ≤ 1 := by
  have w1 : PyData.strOk ("one" : Str) = true := by decide +kernel
  have w2 : PyData.strOk ("can" : Str) = true := by decide +kernel
  have w3 : PyData.strOk ("on" : Str) = true := by decide +kernel
  have w4 : PyData.strOk ("not" : Str) = true := by decide +kernel
  have w5 : PyData.strOk ("less" : Str) = true := by decide +kernel
  have w6 : PyData.strOk ("both" : Str) = true := by decide +kernel
  have w7 : PyData.strOk ("either" : Str) = true := by decide +kernel
  have hz : ∀ {z : Str}, Arg.sg z ∈ r.args → PyData.strOk z = true := fun {z} h => nm_strOk (ok.args _ h)
  cases ok.shape with
  | one => exact ⟨by simp [hdD, PyData.canLay0, PyData.canLayAll0, w1], by simp [hdD, PyData.depth, PyData.depthAll]⟩
  | can z => exact ⟨by simp [hdD, argD, PyData.canLay0, PyData.canLayAll0, w2, hz (z := z) (by simp)], by simp [hdD, argD, PyData.depth, PyData.depthAll]⟩
  | on z n => exact ⟨by simp [hdD, argD, PyData.canLay0, PyData.canLayAll0, w3, hz (z := z) (by simp)], by simp [hdD, argD, PyData.depth, PyData.depthAll]⟩
  | no n => exact ⟨by simp [hdD, argD, PyData.canLay0, PyData.canLayAll0, w4], by simp [hdD, argD, PyData.depth, PyData.depthAll]⟩
  | less n qq => exact ⟨by simp [hdD, argD, PyData.canLay0, PyData.canLayAll0, w5], by simp [hdD, argD, PyData.depth, PyData.depthAll]⟩
  | both n m => exact ⟨by simp [hdD, argD, PyData.canLay0, PyData.canLayAll0, w6], by simp [hdD, argD, PyData.depth, PyData.depthAll]⟩
  | either n m => exact ⟨by simp [hdD, argD, PyData.canLay0, PyData.canLayAll0, w7], by simp [hdD, argD, PyData.depth, PyData.depthAll]⟩
theorem lay_hds : ∀ {rs : List Rw}, (∀ r ∈ rs, ∃ i, RwOk i r) → PyData.canLayAll0 (rs.map hdD) = true ∧ PyData.depthAll (rs.map hdD) ≤ 1
  | [], _ => ⟨rfl, Nat.zero_le _⟩
  | r :: rs, h => by
    obtain ⟨i, o⟩ := h r List.mem_cons_self
    obtain ⟨h1, h2⟩ := lay_hd o
    obtain ⟨h3, h4⟩ := lay_hds (rs := rs) fun r' hr' => h r' (List.mem_cons_of_mem _ hr')
    constructor
    · simp [PyData.canLayAll0, h1, h3]
    · simp only [List.map_cons, PyData.depthAll]
      omega
theorem ne_hds {H : Hp} {a b : Addr} {us vs : List V} {rs : List Rw} {Q : VK} (ok : BkOk rs) (ha : H a = some (.lst us)) (hb : H b = some (.lst vs)) (au : AllAre (IsHd H) us rs) (av : AllAre (IsHd H) vs rs) (q : Q (.bl false) H) : rNeD K (.ref a) (.ref b) H Q := by
  obtain ⟨h1, h2⟩ := lay_hds (rs := rs) fun r hr => by
    obtain ⟨i, hi, e⟩ := List.mem_iff_getElem.mp hr
    exact ⟨i, ok i r (by rw [List.getElem?_eq_getElem hi, e])⟩
  have sh : SeqAt.shaped (.list (rs.map hdD)) = true := by
    unfold SeqAt.shaped
    rw [Bool.and_eq_true]
    refine ⟨by simp [PyData.canLay0, h1], decide_eq_true ?_⟩
    simp only [PyData.depth]
    omega
  refine ⟨_, _, .lst (SqL.of ha) (dp_hds au), .lst (SqL.of hb) (dp_hds av), sh, sh, ?_⟩
  rw [SeqAt.eqv_refl _ (SeqAt.canLay_of_shaped sh)]
  exact q
end

end Fb

namespace Fb
open PySem PySem.Spec PyProof.Rows L2
section
variable {P : Program} {w : World} {K : PySem.W.Frag} {mg : Str → Option Value} {base : Heap}
/-! ### the worths of all rows, the law's way; what is told, as tuples -/
theorem IsFs.put {H : Hp} {S : Addr} {ys o : List V} {v : V} {f : List Rat} (hS : H S = some (.lst ys)) (all : ∀ (i : Nat) y, ys[i]? = some y → ∃ a vs, y = V.ref a ∧ H a = some (.lst vs)) (f1 : f ≠ []) (h : IsFs H v f) : IsFs (upd H S (.lst o)) v f := by
  obtain ⟨a, vs, e, h1, h2⟩ := h
  refine ⟨a, vs, e, ?_, h2.imp fun _ _ h => SL.put hS h⟩
  rw [upd_ne fun z => by
    rw [z, hS] at h1
    cases h1
    have l0 : 0 < ys.length := by
      rw [h2.1]
      cases f with
      | nil => exact absurd rfl f1
      | cons _ _ => simp
    obtain ⟨a', vs', e1, e2⟩ := all 0 _ (List.getElem?_eq_getElem l0)
    obtain ⟨q, _, p, e3, e4⟩ := h2.at (List.getElem?_eq_getElem l0)
    rw [e1] at e3
    cases e3
    rw [e2] at e4
    cases e4]
  exact h1
def spLWs : Sp := fun vs H Q _ => ∃ (fv : V) (R l : Addr) (kf df m : Nat) (svs xs : List V) (ss : List Stp) (rs : List Rw), vs = [.ref R, fv, .int m, .ref l] ∧ H R = some (.lst xs) ∧ AllAre (IsRw SL H) xs rs ∧ BkOk rs ∧ rs.length ≤ 300 ∧ IsTup2 H fv (kf : Nat) (df : Nat) ∧ 1 ≤ df ∧ kf ≤ df ∧ df ≤ 102 ∧ H l = some (.lst svs) ∧ AllAre (IsStp H) svs ss ∧ StpsOk m ss ∧ m ≤ 4 ∧ (∀ s ∈ ss, s.ws.sum < 2 ^ 7) ∧
  (∀ n, n ≤ rs.length → ∀ j, j < n → ((vals (Rat.divInt (kf : Int) (df : Int)) m (doorsL m ss) (rs.take n)).getD j []).length = m ∧ ∀ q ∈ (vals (Rat.divInt (kf : Int) (df : Int)) m (doorsL m ss) (rs.take n)).getD j [], Bd 1800 q) ∧
  ∀ H' F fvs, Same H H' → H' F = some (.lst fvs) → fvs.length = rs.length → (∀ (j : Nat) u, fvs[j]? = some u → IsFs H' u ((vals (Rat.divInt (kf : Int) (df : Int)) m (doorsL m ss) rs).getD j [])) → Q (.ref F) H'
theorem ok_l_worths (T : Txt K mg) : FnOk P w K mg base CX0 5 T.f_l_worths T.d_l_worths ["_law_rows_here", "_law_fade_here", "_law_many", "_law_steps"] spLWs := by
  refine T.F_l_worths.ok sc_l_worths (fun vs H Q E h => ?_) (fun cdv A outer s H vs Q E hr h => ?_)
  · obtain ⟨fv, R, l, kf, df, m, svs, xs, ss, rs, rfl, _⟩ := h
    rfl
  · obtain ⟨fv, R, l, kf, df, m, svs, xs, ss, rs, rfl, hR, av, ok, r3, hf, d1, kd, d102, hl, sv, sok, m4, sl, hB, q⟩ := h
    refine ⟨_, (pss_cons (ps_set (i := 4) sc_l_worths.nd rfl (.inl rfl) (pe_lst pa_nil))
 (pss_cons (ps_for PassesOwn.never rfl (pi_list (pv 0)) (pg_name (i := 5) sc_l_worths.nd rfl (.inl rfl))
  (pss_one (ps_expr (pe_bm PySem.F.plainAttrs_list PySem.F.slot_list_append PySem.F.type_list_append mt_append (pv 4) (pa_cons (pe_call (ok_l_worths_of T) (hr.mono (by decide)) (by rfl) T.g_l_worths_of T.F_l_worths_of.kp T.b_l_worths_of .nil pass0 (pa_cons (pv 5) (pa_cons (pv 1) (pa_cons (pv 2) (pa_cons (pv 3) (pa_cons (pv 4) pa_nil)))))) pa_nil)))))
 (pss_one (ps_ret (pv 4))))), ?_⟩
    have m1 := sok.m1
    obtain ⟨x, hx⟩ : ∃ x, x = Rat.divInt (kf : Int) (df : Int) := ⟨_, rfl⟩
    rw [← hx] at hB q
    refine ⟨Nat.zero_le _, fun F nF => ?_⟩
    have s0 := same_upd (o := .lst []) nF
    refine ⟨_, rfl, R, rfl, ⟨_, SqL.of (s0 _ _ hR)⟩, for_list (K := K) (a := R) (xs := xs) (fun i σ H' => ∃ (y : Option V) (fvs : List V), σ = [some (.ref R), some fv, some (.int m), some (.ref l), some (.ref F), y] ∧ Same H H' ∧ H' F = some (.lst fvs) ∧ fvs.length = i ∧ ∀ (j : Nat) u, fvs[j]? = some u → IsFs H' u ((vals x m (doorsL m ss) (rs.take i)).getD j [])) ⟨_, [], rfl, s0, upd_same, rfl, fun j u h => by cases h⟩ (fun i σ H' _ h => ?_) (fun i u σ H1 hi h => ?_) (fun σ H' h => ?_)⟩
    · obtain ⟨_, _, _, s1, _⟩ := h
      exact SqL.of (s1 _ _ hR)
    · obtain ⟨y, fvs, rfl, s1, eF, lf, lv⟩ := h
      obtain ⟨r, hr', ir⟩ := av.at hi
      have il : i < rs.length := (List.getElem?_eq_some_iff.mp hr').1
      have rok := ok i r hr'
      refine ⟨_, rfl, .inl ⟨rfl, _, SqL.of eF⟩, _, rfl, _, rfl, _, rfl, _, rfl, _, rfl, u, fv, l, F, kf, df, m, i, svs, fvs, ss, vals x m (doorsL m ss) (rs.take i), r, rfl, ir.mono SL.m s1, rok, IsTup2.mono hf s1, d1, kd, d102, s1 _ _ hl, sv.imp fun _ _ h => h.mono s1, sok, m4, sl, eF, lf, (fun j u' hj => ⟨lv j u' hj, hB i (by omega) j (by have := (List.getElem?_eq_some_iff.mp hj).1; omega)⟩), fun H5 v5 s5 h5 => ?_⟩
      rw [← hx] at h5
      have eF5 := s5 _ _ eF
      have fne : ∀ j, j < i + 1 → (vals x m (doorsL m ss) (rs.take (i + 1))).getD j [] ≠ [] := fun j hj z => by
        have := (hB (i + 1) (by omega) j hj).1
        rw [z] at this
        simp at this
        omega
      have refs : ∀ (k : Nat) y, fvs[k]? = some y → ∃ a vs, y = V.ref a ∧ H5 a = some (.lst vs) := fun k y h => by
        obtain ⟨a, vs, e, h1, _⟩ := lv k y h
        exact ⟨a, vs, e, s5 _ _ h1⟩
      refine ⟨F, _, _, rfl, rfl, eF5, small1000 (by omega), ?_⟩
      refine ⟨_, _, rfl, same_over (s1.trans s5) nF, upd_same, by rw [List.length_append, lf]; rfl, fun j u2 hj => ?_⟩
      have lv0 : (vals x m (doorsL m ss) (rs.take i)).length = i := by rw [vals_len, List.length_take]; omega
      by_cases hji : j < i
      · rw [List.getElem?_append_left (by omega)] at hj
        have e6 : (vals x m (doorsL m ss) (rs.take (i + 1))).getD j [] = (vals x m (doorsL m ss) (rs.take i)).getD j [] := by
          rw [vals_take hr', List.getD_eq_getElem?_getD, List.getElem?_append_left (by omega), ← List.getD_eq_getElem?_getD]
        have h6 := (lv j u2 hj).mono s5
        have f6 := fne j (by omega)
        rw [e6] at f6 ⊢
        exact IsFs.put eF5 refs f6 h6
      · have hl := (List.getElem?_eq_some_iff.mp hj).1
        rw [List.length_append, lf] at hl
        have hl : j < i + 1 := hl
        obtain rfl : j = i := by omega
        rw [← lf, List.getElem?_concat_length] at hj
        cases hj
        have e6 : (vals x m (doorsL m ss) (rs.take (j + 1))).getD j [] = rowV x m (doorsL m ss) (vals x m (doorsL m ss) (rs.take j)) r := by
          rw [vals_take hr', List.getD_eq_getElem?_getD, List.getElem?_append_right (by omega), lv0, Nat.sub_self]
          rfl
        have f6 := fne j (by omega)
        rw [e6] at f6 ⊢
        exact IsFs.put eF5 refs f6 h5
    · obtain ⟨y, fvs, rfl, s1, eF, lf, lv⟩ := h
      rw [av.1] at lf lv
      rw [List.take_length] at lv
      exact ⟨_, rfl, q H' F fvs s1 eF lf lv⟩
def spTold (C : Addr) : Sp := fun vs H Q _ => ∃ (p : Addr) (ws : List V) (F : List (List Rat)), vs = [.ref p] ∧ H p = some (.lst ws) ∧ ws.length ≤ 300 ∧ (∀ (i : Nat) u, ws[i]? = some u → ∃ a us, u = .ref a ∧ H a = some (.lst us) ∧ us.length ≤ 300 ∧ AllAre (IsShare C H) us (F.getD i [])) ∧
  ∀ H' D ys, Same H H' → H' D = some (.lst ys) → ys.length = ws.length → (∀ (i : Nat) u, ys[i]? = some u → IsFs H' u (F.getD i [])) → Q (.ref D) H'
theorem ok_l_told (T : Txt K mg) : FnOk P w K mg base CX0 1 T.f_l_told T.d_l_told ["_law_table"] (spTold T.c_Share) := by
  refine T.F_l_told.ok sc_l_told (fun vs H Q E h => ?_) (fun cdv A outer s H vs Q E hr h => ?_)
  · obtain ⟨p, ws, F, rfl, _⟩ := h
    rfl
  · obtain ⟨p, ws, F, rfl, hp, l3, hw, q⟩ := h
    refine ⟨_, (pss_one (ps_ret (pe_lc (own := [("_law_row_here", 1)]) (g := (gName 1)) (tt := tYes) (by rfl) sc_l_told.nd (pi_list (pv 0)) (blkOk_by (own := [("_law_row_here", 1)]) (N := ["_law_table", "_law_row_here", "_law_share_here"]) (sc := defScope s_l_told) (by decide +kernel)) (fun _ _ _ _ _ => by exact (pg_name (i := 1) sc_l_told.nd rfl (.inl rfl))) (fun _ _ _ _ _ => by exact pts_nil) (fun _ _ _ _ _ => by exact (by exact (pe_lc (own := [("_law_share_here", 2)]) (g := (gName 2)) (tt := tYes) (by rfl) sc_l_told.nd (pi_listK (K := K) rfl (pv 1)) (by exact blkOk_by (own := [("_law_share_here", 2)]) (by kernel_rfl)) (fun _ _ _ _ _ => by exact (pg_name (i := 2) sc_l_told.nd rfl (.inl rfl))) (fun _ _ _ _ _ => by exact pts_nil) (fun _ _ _ _ _ => by exact (pe_tup (pa_cons (pe_fldK (K := K) rfl (pv 2) rfl) (pa_cons (pe_fldK (K := K) rfl (pv 2) rfl) pa_nil)))))))))), ?_⟩
    refine ⟨_, rfl, p, rfl, ⟨_, SqL.of hp⟩, fun D nD => lc_allW (walk_list (K := K) (a := p) (xs := ws)) (fun i y G => IsFs G y (F.getD i [])) (fun _ _ _ _ s h => h.mono s) nD (fun H' s => SqL.of (s _ _ hp)) (by omega) (fun i u H2 H3 kk hi s2 eD y hk => ?_) (fun H2 ys s2 e l2 r2 => ?_)⟩
    · obtain ⟨rfl, hv⟩ := y
      obtain ⟨a, us, rfl, ha, l4, au⟩ := hw i _ hv
      have sH : Same H H3 := s2.trans hid_same
      have ha3 := sH _ _ ha
      have au3 := au.imp fun _ _ h => h.mono sH
      refine ⟨rfl, _, rfl, a, rfl, ⟨_, SqL.of ha3⟩, fun D2 nD2 => lc_allW (walk_list (K := K) (a := a) (xs := us)) (fun j y G => ∃ q1, (F.getD i [])[j]? = some q1 ∧ SL G y q1) (fun _ _ _ _ s h => h.elim fun q1 f => ⟨q1, f.1, f.2.mono s⟩) nD2 (fun H' s => SqL.of (s _ _ ha3)) (by omega) (fun j v H5 H6 kk2 hj s5 eD5 y hk2 => ?_) (fun H5 ys5 s5 e5 l5 r5 => ?_)⟩
      · obtain ⟨rfl, hv2⟩ := y
        obtain ⟨q1, hq1, pp, dx, rfl, hx⟩ := au3.at hv2
        have hx6 := hid_same _ _ (s5 _ _ hx)
        refine ⟨rfl, _, rfl, _, _, _, _, _, rfl, hx6, T.cl_Share, T.n_Share_top, flds_top _, _, rfl, _, _, _, _, _, rfl, hx6, T.cl_Share, T.n_Share_bottom, flds_bottom _, by show 2 ≤ sizeLine; decide, fun t nt => ?_⟩
        have st := same_upd (o := .tup [.int q1.num, .int (q1.den : Int)]) nt
        have eD6 : ∃ ys, (upd H6 t (.tup [.int q1.num, .int (q1.den : Int)])) D2 = some (.lst ys) := by
          obtain ⟨ys', e'⟩ := eD5
          exact ⟨ys', st _ _ e'⟩
        exact hk2 _ _ st ⟨q1, hq1, SL.hidL eD6 ⟨t, rfl, upd_same⟩⟩
      · have s35 : Same H3 H5 := s5.trans hid_same
        have eD5 : ∃ ys, H5 D = some (.lst ys) := by
          obtain ⟨ys', e'⟩ := eD
          exact ⟨ys', s35 _ _ e'⟩
        have ne : D2 ≠ D := fun z => by
          obtain ⟨ys', e'⟩ := eD
          rw [z, e'] at nD2
          cases nD2
        refine hk _ _ s35 ⟨D2, ys5, rfl, by rw [hid_ne ne]; exact e5, .of_ix (by rw [l5, au.1]) fun j y hy => ?_⟩
        obtain ⟨q1, hq1, f1⟩ := r5 j y hy
        exact ⟨q1, hq1, SL.hidL eD5 (f1.mono hid_same)⟩
    · exact q H2 D ys (s2.trans hid_same) e l2 fun i u hu => (r2 i u hu).mono hid_same
end

end Fb

namespace Fb
open PySem PySem.Spec PyProof.Rows L2
section
/-! ### bounds of what rows are worth; steps as they are drawn -/
theorem can_raw {m : Nat} {ss out : List Stp} (ok : StpsOk m ss) (so : SortedOf ss out) (z : Str) (r : Nat) : canV z (doorOf ss r) = canV z (doorOf out r) := by
  have mok := mok_of ok so
  unfold canV
  rcases step_or ss r z with ⟨s, hs, rfl, rfl⟩ | h
  · have h2 : lowS s ∈ out := so.1.mem_iff.mpr (List.mem_map_of_mem hs)
    have e := sel_some mok.ok.once h2
    have e' : selD s.sign (doorOf out s.room) = some (lowS s) := e
    rw [sel_some ok.once hs, e']
    rfl
  · rw [sel_none h, sel_none fun s2 h2 c => ?_]
    obtain ⟨s, hs, rfl⟩ := List.mem_map.mp (so.1.mem_iff.mp h2)
    exact h s hs c
theorem rowV_raw {x : Rat} {m : Nat} {ss out : List Stp} (ok : StpsOk m ss) (so : SortedOf ss out) (fs : List (List Rat)) (r : Rw) : rowV x m (doorsL m ss) fs r = rowV x m (doorsL m out) fs r := by
  unfold rowV doorsL
  split
  · rfl
  · rw [List.map_map, List.map_map]
    exact List.map_congr_left fun j _ => can_raw ok so _ j
  · rw [List.map_map, List.map_map]
    refine List.map_congr_left fun j _ => ?_
    show x * stepV _ (doorOf ss j) _ = x * stepV _ (doorOf out j) _
    rw [step_raw ok so]
  · rfl
  · rfl
  · rfl
  · rfl
theorem valsF_raw {x : Rat} {m : Nat} {ss out : List Stp} (ok : StpsOk m ss) (so : SortedOf ss out) : ∀ (rs : List Rw) (fs : List (List Rat)), valsF x m (doorsL m ss) fs rs = valsF x m (doorsL m out) fs rs
  | [], _ => rfl
  | r :: rs, fs => by
    show valsF x m (doorsL m ss) (fs ++ [rowV x m (doorsL m ss) fs r]) rs = valsF x m (doorsL m out) (fs ++ [rowV x m (doorsL m out) fs r]) rs
    rw [rowV_raw ok so, valsF_raw ok so]
theorem vals_raw {x : Rat} {m : Nat} {ss out : List Stp} (ok : StpsOk m ss) (so : SortedOf ss out) (rs : List Rw) : vals x m (doorsL m ss) rs = vals x m (doorsL m out) rs := valsF_raw ok so rs []
theorem rowV_lev {x : Rat} {m i M : Nat} {ds : List (List Stp)} {fs : List (List Rat)} {r : Rw} (rok : RwOk i r) (dok : DsOk m ds) (x0 : 0 ≤ x.num) (x1 : x.num ≤ x.den) (hf : ∀ j, j < i → Lev m M (fs.getD j [])) (M0 : 0 < M) (hq : ∀ q, Arg.sh q ∈ r.args → q.den ∣ M) : Lev m (upM (grainF 1 ds.flatten * x.den) M r) (rowV x m ds fs r) := by
  have o := rok.args
  have dpos : ∀ s ∈ ds.flatten, 0 < s.ws.sum := fun s hs => by
    obtain ⟨d, hd, h⟩ := List.mem_flatten.mp hs
    exact dok.pos d hd s h
  have W0 := grainF_pos (l := ds.flatten) Nat.one_pos dpos
  cases rok.shape with
  | one => exact Lev.up (b := 1) ⟨_, List.length_replicate, fun n hn => Nat.le_of_eq (List.mem_replicate.mp hn).2, valL_one m⟩ (Nat.one_dvd _) M0
  | can z =>
    refine Lev.up (b := 1) ⟨ds.map fun d => if (selD z d).isSome then 1 else 0, by rw [List.length_map, dok.len], fun n hn => ?_, ?_⟩ (Nat.one_dvd _) M0
    · obtain ⟨d, _, rfl⟩ := List.mem_map.mp hn
      split <;> omega
    · show valL _ 1 = ds.map (canV z)
      unfold valL
      rw [List.map_map]
      refine List.map_congr_left fun d _ => ?_
      show Rat.divInt ((if (selD z d).isSome then 1 else 0 : Nat) : Int) ((1 : Nat) : Int) = if (selD z d).isSome then 1 else 0
      split
      · rfl
      · rfl
  | on z k =>
    obtain ⟨ts, lt, hn, ev⟩ := hf k (o (.nu k) (by simp))
    obtain ⟨n, en⟩ : ∃ n : Nat, x.num = (n : Int) := ⟨x.num.toNat, by omega⟩
    have tv : ∀ d ∈ ds, topD z (grainF 1 ds.flatten) ts d ≤ M * grainF 1 ds.flatten ∧ Rat.divInt (topD z (grainF 1 ds.flatten) ts d : Nat) ((M * grainF 1 ds.flatten : Nat) : Int) = stepV z d (valL ts M) := fun d hd => top_val (fun s hs _ => ⟨dok.pos d hd s hs, (grainF_dvd ds.flatten 1).2 s (mem_flat hd hs)⟩) W0 hn
    refine ⟨ds.map fun d => topD z (grainF 1 ds.flatten) ts d * n, by rw [List.length_map, dok.len], fun y hy => ?_, ?_⟩
    · obtain ⟨d, hd, rfl⟩ := List.mem_map.mp hy
      show _ ≤ M * (grainF 1 ds.flatten * x.den)
      rw [← Nat.mul_assoc]
      exact Nat.mul_le_mul (tv d hd).1 (by omega)
    · show valL _ (M * (grainF 1 ds.flatten * x.den)) = ds.map fun d => x * stepV z d (fs.getD k [])
      unfold valL
      rw [List.map_map]
      refine List.map_congr_left fun d hd => ?_
      show Rat.divInt ((topD z (grainF 1 ds.flatten) ts d * n : Nat) : Int) ((M * (grainF 1 ds.flatten * x.den) : Nat) : Int) = x * stepV z d (fs.getD k [])
      rw [← ev, ← (tv d hd).2]
      conv => rhs; lhs; rw [← Rat.num_divInt_den x, en]
      rw [Rat.divInt_mul_divInt, ← Nat.mul_assoc, Int.natCast_mul (topD _ _ _ _), Int.natCast_mul (M * _), Int.mul_comm (n : Int), Int.mul_comm (x.den : Int)]
  | no k =>
    obtain ⟨ts, lt, hn, ev⟩ := hf k (o (.nu k) (by simp))
    refine ⟨ts.map (M - ·), by rw [List.length_map, lt], fun y hy => ?_, ?_⟩
    · obtain ⟨n, _, rfl⟩ := List.mem_map.mp hy
      exact Nat.sub_le _ _
    · show valL _ M = _
      rw [not_val M0 hn, ev]
      rfl
  | less k qq =>
    obtain ⟨ts, lt, hn, ev⟩ := hf k (o (.nu k) (by simp))
    obtain ⟨o1, _, _⟩ : ArgOk i (.sh qq) := o _ (by simp)
    obtain ⟨kn, hkn⟩ : ∃ kn : Nat, qq.num = (kn : Int) := ⟨qq.num.toNat, by omega⟩
    have qM : qq.den ∣ M := hq qq (by simp)
    have eB : qq.den * (M / qq.den) = M := Nat.mul_div_cancel' qM
    have kd0 : 0 < M / qq.den := Nat.div_pos (Nat.le_of_dvd M0 qM) qq.den_pos
    have e3 : qq = Rat.divInt ((kn * (M / qq.den) : Nat) : Int) (M : Int) := by
      have h := Rat.divInt_mul_right (n := (kn : Int)) (d := (qq.den : Int)) (a := ((M / qq.den : Nat) : Int)) (by omega)
      rw [← Int.natCast_mul, ← Int.natCast_mul, eB] at h
      rw [h, ← hkn, Rat.num_divInt_den]
    refine ⟨ts.map (· - kn * (M / qq.den)), by rw [List.length_map, lt], fun y hy => ?_, ?_⟩
    · obtain ⟨n, hn', rfl⟩ := List.mem_map.mp hy
      exact Nat.le_trans (Nat.sub_le _ _) (hn n hn')
    · show valL _ M = _
      rw [les_val M0 e3, ev]
      rfl
  | both k j =>
    obtain ⟨ts, lt, hn, ev⟩ := hf k (o (.nu k) (by simp))
    obtain ⟨ts', lt', hn', ev'⟩ := hf j (o (.nu j) (by simp))
    refine ⟨List.zipWith min ts ts', by rw [List.length_zipWith]; omega, fun y hy => ?_, ?_⟩
    · obtain ⟨i, hi⟩ := List.mem_iff_getElem?.mp hy
      rw [List.getElem?_zipWith] at hi
      cases h1 : ts[i]? with
      | none => rw [h1] at hi; cases hi
      | some n1 =>
        cases h2 : ts'[i]? with
        | none => rw [h1, h2] at hi; cases hi
        | some n2 =>
          rw [h1, h2] at hi
          cases hi
          have := hn n1 (List.mem_of_getElem? h1)
          show min n1 n2 ≤ M
          omega
    · show valL _ M = _
      rw [zip_val (f := minR) (fun a c => minR_same M0), ev, ev']
      rfl
  | either k j =>
    obtain ⟨ts, lt, hn, ev⟩ := hf k (o (.nu k) (by simp))
    obtain ⟨ts', lt', hn', ev'⟩ := hf j (o (.nu j) (by simp))
    refine ⟨List.zipWith max ts ts', by rw [List.length_zipWith]; omega, fun y hy => ?_, ?_⟩
    · obtain ⟨i, hi⟩ := List.mem_iff_getElem?.mp hy
      rw [List.getElem?_zipWith] at hi
      cases h1 : ts[i]? with
      | none => rw [h1] at hi; cases hi
      | some n1 =>
        cases h2 : ts'[i]? with
        | none => rw [h1, h2] at hi; cases hi
        | some n2 =>
          rw [h1, h2] at hi
          cases hi
          have := hn n1 (List.mem_of_getElem? h1)
          have := hn' n2 (List.mem_of_getElem? h2)
          show max n1 n2 ≤ M
          omega
    · show valL _ M = _
      rw [zip_val (f := maxR) (fun a c => maxR_same M0), ev, ev']
      rfl
theorem vals_lev {x : Rat} {m g : Nat} {ds : List (List Stp)} {rs : List Rw} (ok : BkOk rs) (dok : DsOk m ds) (x0 : 0 ≤ x.num) (x1 : x.num ≤ x.den) (g0 : 0 < g) (gx0 : 0 < grainF 1 ds.flatten * x.den) (hq : ∀ r ∈ rs, ∀ q, Arg.sh q ∈ r.args → q.den ∣ g) : ∀ n, n ≤ rs.length → ∀ j, j < n → Lev m (botF (grainF 1 ds.flatten * x.den) g (rs.take n)) ((vals x m ds (rs.take n)).getD j [])
  | 0, _, j, h => by omega
  | n + 1, hn, j, hj => by
    have e : rs[n]? = some rs[n] := List.getElem?_eq_getElem (by omega)
    have lf : (vals x m ds (rs.take n)).length = n := by rw [vals_len, List.length_take]; omega
    have M0 := botF_pos gx0 g0 (rs.take n)
    rw [vals_take e, botF_take e]
    by_cases h : j < n
    · rw [List.getD_eq_getElem?_getD, List.getElem?_append_left (by omega), ← List.getD_eq_getElem?_getD]
      exact (vals_lev ok dok x0 x1 g0 gx0 hq n (by omega) j h).up (upM_dvd _ _ _) (upM_pos _ gx0 M0)
    · obtain rfl : j = n := by omega
      rw [List.getD_eq_getElem?_getD, List.getElem?_append_right (by omega), lf, Nat.sub_self]
      exact rowV_lev (ok j _ e) dok x0 x1 (vals_lev ok dok x0 x1 g0 gx0 hq j (by omega)) M0 fun q h => Nat.dvd_trans (hq _ (List.mem_of_getElem? e) q h) (botF_dvd _ _ _)
/-- a number that the bottoms of all shares in rows divide -/
def shD (r : Rw) : Nat := match r.args with
  | [.nu _, .sh q] => q.den
  | _ => 1
def shP : List Rw → Nat
  | [] => 1
  | r :: rs => shD r * shP rs
theorem shD_pos (r : Rw) : 0 < shD r := by
  unfold shD
  split
  · exact Rat.den_pos _
  · exact Nat.one_pos
theorem shP_pos : ∀ rs : List Rw, 0 < shP rs
  | [] => Nat.one_pos
  | r :: rs => Nat.mul_pos (shD_pos r) (shP_pos rs)
theorem shP_dvd : ∀ {rs : List Rw}, (∀ r ∈ rs, ∃ i, RwOk i r) → ∀ r ∈ rs, ∀ q, Arg.sh q ∈ r.args → q.den ∣ shP rs
  | a :: rs, ok, r, hr, q, hq => by
    rcases List.mem_cons.mp hr with rfl | hr
    · obtain ⟨i, rok⟩ := ok r List.mem_cons_self
      by_cases hl : r.word = "less"
      · obtain ⟨n, qq, rfl⟩ := is_less rok hl
        have hq : Arg.sh q ∈ [Arg.nu n, .sh qq] := hq
        have : q = qq := by simpa using hq
        rw [this]
        exact Nat.dvd_mul_right _ _
      · exact absurd hq (no_less rok hl q)
    · exact Nat.dvd_trans (shP_dvd (fun x hx => ok x (List.mem_cons_of_mem _ hx)) r hr q hq) (Nat.dvd_mul_left _ _)
theorem shP_lt : ∀ {rs : List Rw}, (∀ r ∈ rs, ∃ i, RwOk i r) → shP rs < 2 ^ (1 + 100 * lec rs)
  | [], _ => by decide
  | r :: rs, ok => by
    obtain ⟨i, rok⟩ := ok r List.mem_cons_self
    have ih := shP_lt (rs := rs) fun x hx => ok x (List.mem_cons_of_mem _ hx)
    have el : lec (r :: rs) = (if r.word = "less" then 1 else 0) + lec rs := by
      unfold lec
      rw [List.filter_cons]
      by_cases e : r.word = "less"
      · rw [if_pos e, if_pos (by simpa using e), List.length_cons]
        omega
      · rw [if_neg e, if_neg (by simpa using e)]
        omega
    show shD r * shP rs < _
    rw [el]
    by_cases hl : r.word = "less"
    · obtain ⟨n, qq, rfl⟩ := is_less rok hl
      obtain ⟨_, _, ub⟩ : ArgOk i (.sh qq) := rok.args _ (by simp)
      have h1 : shD ⟨"less", [.nu n, .sh qq]⟩ < 2 ^ 100 := by
        show qq.den < _
        have := den_abs ub
        omega
      rw [if_pos rfl, show 1 + 100 * (1 + lec rs) = 100 + (1 + 100 * lec rs) by omega, Nat.pow_add]
      exact Nat.mul_lt_mul'' h1 ih
    · have h1 : shD r = 1 := by
        unfold shD
        split
        · rename_i q h
          exact absurd (show Arg.sh q ∈ r.args by rw [h]; simp) (no_less rok hl q)
        · rfl
      rw [h1, Nat.one_mul, if_neg hl, Nat.zero_add]
      exact ih
end

end Fb

namespace Fb
open PySem PySem.Spec PyProof.Rows L2
section
variable {P : Program} {w : World} {K : PySem.W.Frag} {mg : Str → Option Value} {base : Heap}
/-! ### the law's fade (of U4) -/
def spLFade : Sp := fun vs H Q _ => ∃ (a : Addr) (n : Nat), vs = [.ref a] ∧ WellAt H a (n + 3) ∧ ∀ H' t (k d : Nat), Same (hid a H) (hid a H') → WellAt H' a n → H' t = some (.tup [.int (k : Nat), .int (d : Nat)]) → 1 ≤ k → k < d → d ≤ 102 → Q (.ref t) H'
theorem ok_l_fade (T : Txt K mg) : FnOk P w K mg base CX0 3 T.f_l_fade T.d_l_fade ["_law_well_here"] spLFade := by
  refine T.F_l_fade.ok sc_l_fade (fun vs H Q E h => ?_) (fun cdv A outer s H vs Q E hr h => ?_)
  · obtain ⟨a, n, rfl, _⟩ := h
    rfl
  · obtain ⟨a, n, rfl, wA, q⟩ := h
    refine ⟨_, (pss_cons (ps_set (i := 1) sc_l_fade.nd rfl (.inl rfl) (pe_op op_add pe_int (pe_call (ok_l_draw T) (hr.mono (by decide)) (by rfl) T.g_l_draw T.F_l_draw.kp T.b_l_draw .nil pass0 (pa_cons (pv 0) (pa_cons (pe_call (ok_l_one T) (hr.mono (by decide)) (by rfl) T.g_l_one T.F_l_one.kp T.b_l_one .nil pass0 (pa_cons (pv 0) (pa_cons (pe_lst (pa_cons pe_int (pa_cons pe_int (pa_cons pe_int pa_nil)))) pa_nil))) pa_nil)))))
 (pss_one (ps_ret (pe_tup (pa_cons (pe_op op_add pe_int (pe_call (ok_l_draw T) (hr.mono (by decide)) (by rfl) T.g_l_draw T.F_l_draw.kp T.b_l_draw .nil pass0 (pa_cons (pv 0) (pa_cons (pe_op op_sub (pv 1) pe_int) pa_nil)))) (pa_cons (pv 1) pa_nil)))))), ?_⟩
    refine ⟨_, rfl, _, rfl, by show 3 ≤ sizeLine; decide, fun q1 nq1 => ?_⟩
    obtain ⟨w1, s1⟩ := well_new (o := .lst [.int 2, .int 9, .int 99]) wA nq1
    refine ⟨a, q1, [.int 2, .int 9, .int 99], n + 2, rfl, w1, sqL_hid wA nq1, by decide, by decide, fun i1 x1 H2 hx1 s2 w2 => ?_⟩
    obtain ⟨b, rfl, b1, b2⟩ : ∃ b : Nat, x1 = .int (b : Int) ∧ 1 ≤ b ∧ b ≤ 99 := by
      have := List.mem_of_getElem? hx1
      rcases (by simpa using this : x1 = .int 2 ∨ x1 = .int 9 ∨ x1 = .int 99) with rfl | rfl | rfl
      · exact ⟨2, rfl, by decide, by decide⟩
      · exact ⟨9, rfl, by decide, by decide⟩
      · exact ⟨99, rfl, by decide, by decide⟩
    refine ⟨a, b, n + 1, rfl, w2, by omega, log_small (by omega), fun d H3 d0 d1 s3 w3 => ⟨_, _, rfl, rfl, ?_⟩⟩
    obtain ⟨bt, hb⟩ : ∃ bt : Nat, 2 + d = (bt : Int) := ⟨(2 + d).toNat, by omega⟩
    dsimp only
    rw [hb]
    refine ⟨_, rfl, _, rfl, _, _, rfl, rfl, a, _, n, rfl, w3, by omega, ?_, fun k H4 k0 k1 s4 w4 => ⟨_, _, rfl, rfl, ?_⟩⟩
    · have e : (bt : Int) - 1 = ((bt - 1 : Nat) : Int) := by omega
      show ((bt : Int) - 1).natAbs.log2 < 9000
      rw [e]
      exact log_small (by omega)
    obtain ⟨kt, hk⟩ : ∃ kt : Nat, 1 + k = (kt : Int) := ⟨(1 + k).toNat, by omega⟩
    dsimp only
    rw [hk]
    refine ⟨_, rfl, by show 2 ≤ sizeLine; decide, fun t nt => ?_⟩
    obtain ⟨w5, s5⟩ := well_new (o := .tup [.int (kt : Int), .int (bt : Int)]) w4 nt
    exact q _ t kt bt (s1.trans (s2.trans (s3.trans (s4.trans s5)))) w5 upd_same (by omega) (by omega) (by omega)
end

end Fb

namespace Fb
open PySem PySem.Spec PyProof.Rows L2
section
variable {P : Program} {w : World} {K : PySem.W.Frag} {mg : Str → Option Value} {base : Heap}
theorem cut_neg1 (xs : List V) : cutV xs none (some (-1)) = xs.take (xs.length - 1) := by
  unfold cutV
  rw [HT.sIx_none, List.drop_zero]
  have e : HT.sIx xs.length xs.length (some (-1)) = xs.length - 1 := by
    unfold HT.sIx
    simp
    omega
  rw [e, Nat.sub_zero]
theorem fdx {k d : Nat} (h1 : 1 ≤ k) (h2 : k < d) (h3 : d ≤ 102) : 0 < Rat.divInt (k : Int) (d : Int) ∧ Rat.divInt (k : Int) (d : Int) < 1 ∧ Bd 7 (Rat.divInt (k : Int) (d : Int)) ∧ (Rat.divInt (k : Int) (d : Int)).den < 2 ^ 7 := by
  have b : Bd 7 (Rat.divInt (k : Int) (d : Int)) := .divInt (by omega) (nat_abs (Nat.lt_of_le_of_lt (show k ≤ 102 by omega) (by decide))) (nat_abs (Nat.lt_of_le_of_lt h3 (by decide)))
  refine ⟨?_, ?_, b, ?_⟩
  · rw [show (0 : Rat) = Rat.divInt 0 1 from (Rat.zero_divInt _).symm, lt_cross (by decide) (by omega)]
    have := Int.mul_pos (a := (k : Int)) (b := (d : Int)) (by omega) (by omega)
    simp only [Int.zero_mul, Int.mul_one, Int.zero_sub, Int.neg_mul]
    omega
  · rw [show (1 : Rat) = Rat.divInt 1 1 from (Rat.divInt_self' (by decide)).symm, lt_cross (by omega) (by decide)]
    have := Int.mul_pos (a := (d : Int) - (k : Int)) (b := (d : Int)) (by omega) (by omega)
    simp only [Int.mul_one, Int.one_mul]
    rw [Int.sub_mul] at this ⊢
    omega
  · have := den_abs b
    omega
def pdS (q : Rat) : PyData := .tuple [.int q.num, .int (q.den : Int)]
def fD (f : List Rat) : PyData := .list (f.map pdS)
theorem dpAll_sl {H : Hp} : ∀ {vs : List V} {qs : List Rat}, AllAre (SL H) vs qs → DpAll K H vs (qs.map pdS)
  | [], [], _ => .nil
  | v :: vs, q :: qs, h => .cons (IsTup2.dp (h.2 0 v q rfl rfl)) (dpAll_sl ⟨by simpa using h.1, fun i a b h1 h2 => h.2 (i + 1) a b (by simpa using h1) (by simpa using h2)⟩)
  | [], _ :: _, h => by simp [AllAre] at h
  | _ :: _, [], h => by simp [AllAre] at h
theorem dp_fs {H : Hp} {v : V} {f : List Rat} (h : IsFs H v f) : Dp K H v (fD f) := by
  obtain ⟨a, vs, rfl, e, al⟩ := h
  exact .lst (SqL.of e) (dpAll_sl al)
theorem dpAll_fs {H : Hp} : ∀ {vs : List V} {F : List (List Rat)}, AllAre (IsFs H) vs F → DpAll K H vs (F.map fD)
  | [], [], _ => .nil
  | v :: vs, q :: qs, h => .cons (dp_fs (h.2 0 v q rfl rfl)) (dpAll_fs ⟨by simpa using h.1, fun i a b h1 h2 => h.2 (i + 1) a b (by simpa using h1) (by simpa using h2)⟩)
  | [], _ :: _, h => by simp [AllAre] at h
  | _ :: _, [], h => by simp [AllAre] at h
theorem lay_f (f : List Rat) : PyData.canLay0 (fD f) = true ∧ PyData.depth (fD f) ≤ 2 := by
  have h1 : ∀ qs : List Rat, PyData.canLayAll0 (qs.map pdS) = true := fun qs => by
    induction qs with
    | nil => rfl
    | cons q r ih => simp [PyData.canLayAll0, pdS, PyData.canLay0, ih]
  have h2 : ∀ qs : List Rat, PyData.depthAll (qs.map pdS) ≤ 1 := fun qs => by
    induction qs with
    | nil => simp [PyData.depthAll]
    | cons q r ih =>
      have : PyData.depth (pdS q) = 1 := by simp [pdS, PyData.depth, PyData.depthAll]
      simp only [List.map_cons, PyData.depthAll, this]
      omega
  refine ⟨by simp [fD, PyData.canLay0, h1], ?_⟩
  have := h2 f
  show PyData.depthAll (f.map pdS) + 1 ≤ 2
  omega
theorem shaped_fs (F : List (List Rat)) : SeqAt.shaped (.list (F.map fD)) = true := by
  have h1 : ∀ F : List (List Rat), PyData.canLayAll0 (F.map fD) = true := fun F => by
    induction F with
    | nil => rfl
    | cons q r ih => simp [PyData.canLayAll0, (lay_f q).1, ih]
  have h2 : ∀ F : List (List Rat), PyData.depthAll (F.map fD) ≤ 2 := fun F => by
    induction F with
    | nil => simp [PyData.depthAll]
    | cons q r ih =>
      have := (lay_f q).2
      simp only [List.map_cons, PyData.depthAll]
      omega
  have h3 := h2 F
  unfold SeqAt.shaped
  rw [Bool.and_eq_true]
  refine ⟨by simp [PyData.canLay0, h1], decide_eq_true ?_⟩
  show PyData.depthAll (F.map fD) + 1 ≤ 64
  omega
theorem are_fs {H : Hp} {ys : List V} {F : List (List Rat)} (l : ys.length = F.length) (h : ∀ (i : Nat) u, ys[i]? = some u → IsFs H u (F.getD i [])) : AllAre (IsFs H) ys F := .of_ix l fun i u hu => by
  have hi := (List.getElem?_eq_some_iff.mp hu).1
  have e : F[i]? = some (F.getD i []) := by rw [List.getD_eq_getElem?_getD, List.getElem?_eq_getElem (by omega)]; rfl
  exact ⟨_, e, h i u hu⟩
theorem onc_le (rs : List Rw) : onc rs ≤ rs.length := List.length_filter_le _ _
theorem lec_le (rs : List Rw) : lec rs ≤ rs.length := List.length_filter_le _ _
def spLaw (K : PySem.W.Frag) : Sp := fun vs H Q _ => ∃ (a : Addr) (ns : List Int), vs = [.ref a] ∧ SqL K H a (ns.map V.int) ∧ ns.length ≤ 63 ∧ ∀ H', Q (.bl true) H'
set_option maxHeartbeats 3200000 in
theorem ok_law (T : Txt K mg) (hw : T.prm = w.params) : FnOk P w K mg base CX0 14 T.f_law T.d_law ["_law_script"] (spLaw K) := by
  refine T.F_law.ok sc_law (fun vs H Q E h => ?_) (fun cdv A outer s H vs Q E hr h => ?_)
  · obtain ⟨a, ns, rfl, _⟩ := h
    rfl
  · obtain ⟨a, ns, rfl, hS, hlen, q⟩ := h
    refine ⟨_, (pss_cons (ps_for PassesOwn.never rfl (pi_list (pe_op op_cat (pe_slice sl_list (pv 0) po_none (po_some pe_int)) (pe_lst (pa_cons pe_int pa_nil)))) (pg_name (i := 1) sc_law.nd rfl (.inl rfl))
  (pss_cons (ps_set (i := 2) sc_law.nd rfl (.inl rfl) (pe_call (ok_l_well T) (hr.mono (by decide)) (by rfl) T.g_l_well T.F_l_well.kp T.b_l_well .nil pass0 (pa_cons (pv 1) pa_nil)))
 (pss_cons (ps_set (i := 3) sc_law.nd rfl (.inl rfl) (pe_call (ok_l_names T) (hr.mono (by decide)) (by rfl) T.g_l_names T.F_l_names.kp T.b_l_names .nil pass0 (pa_cons (pv 2) (pa_cons (pe_op op_add pe_int (pe_call (ok_l_draw T) (hr.mono (by decide)) (by rfl) T.g_l_draw T.F_l_draw.kp T.b_l_draw .nil pass0 (pa_cons (pv 2) (pa_cons pe_int pa_nil)))) pa_nil))))
 (pss_cons (ps_asg (pe_call (ok_l_machine T) (hr.mono (by decide)) (by rfl) T.g_l_machine T.F_l_machine.kp T.b_l_machine .nil pass0 (pa_cons (pv 2) (pa_cons (pe_slice sl_list (pv 3) po_none (po_some (pe_un un_neg pe_int))) (pa_cons pe_int pa_nil)))) (pg_tup (by rfl) (pgs_cons (pg_name (i := 4) sc_law.nd rfl (.inl rfl)) (pgs_cons (pg_name (i := 5) sc_law.nd rfl (.inl rfl)) pgs_nil))))
 (pss_cons (ps_set (i := 6) sc_law.nd rfl (.inl rfl) (pe_call (ok_l_rows T) (hr.mono (by decide)) (by rfl) T.g_l_rows T.F_l_rows.kp T.b_l_rows .nil pass0 (pa_cons (pv 2) (pa_cons (pv 3) (pa_cons pe_int pa_nil)))))
 (pss_cons (ps_if (pt_cmpR op_eq (pe_call (ok_l_draw T) (hr.mono (by decide)) (by rfl) T.g_l_draw T.F_l_draw.kp T.b_l_draw .nil pass0 (pa_cons (pv 2) (pa_cons pe_int pa_nil))) pe_int (nomark _))
  (pss_one (ps_set (i := 6) sc_law.nd rfl (.inl rfl) (pe_call (ok_l_doubled T) (hr.mono (by decide)) (by rfl) T.g_l_doubled T.F_l_doubled.kp T.b_l_doubled .nil pass0 (pa_cons (pv 2) (pa_cons (pv 6) (pa_cons pe_int pa_nil))))))
  pss_nil)
 (pss_cons (ps_set (i := 7) sc_law.nd rfl (.inl rfl) (pe_call (ok_l_fade T) (hr.mono (by decide)) (by rfl) T.g_l_fade T.F_l_fade.kp T.b_l_fade .nil pass0 (pa_cons (pv 2) pa_nil)))
 (pss_cons (ps_par (i := 8) (j := 9) (by rfl) sc_law.nd rfl rfl (by decide) rfl rfl (pa_cons (pe_make T.M_Machine (ok_m_Machine_init T) (hr.mono (by decide)) (by rfl) T.g_Machine T.b_m_Machine_init .nil pass0 (pa_cons (pv 4) (pa_cons (pe_callTy call_list_of (by rfl) T.z_list (by decide +kernel) (pa_cons (pv 5) pa_nil)) pa_nil))) (pa_cons (pe_call (ok_l_book T) (hr.mono (by decide)) (by rfl) T.g_l_book T.F_l_book.kp T.b_l_book .nil pass0 (pa_cons (pv 6) pa_nil)) pa_nil)) (by rfl))
 (pss_cons (ps_set (i := 10) sc_law.nd rfl (.inl rfl) (pe_call (ok_l_worths T) (hr.mono (by decide)) (by rfl) T.g_l_worths T.F_l_worths.kp T.b_l_worths .nil pass0 (pa_cons (pv 6) (pa_cons (pv 7) (pa_cons (pv 4) (pa_cons (pv 5) pa_nil))))))
 (pss_cons (ps_for PassesOwn.never rfl (pi_range1 (by rfl) T.z_range (pa_cons pe_int pa_nil)) (pg_name (i := 11) sc_law.nd rfl (.inl rfl))
  (pss_cons (ps_set (i := 12) sc_law.nd rfl (.inl rfl) (pe_call (ok_p_worths T hw) (hr.mono (by decide)) (by rfl) T.g_p_worths T.F_p_worths.kp T.b_p_worths .nil pass0 (pa_cons (pv 9) (pa_cons (pe_make T.M_Share (ok_m_Share_init T) (hr.mono (by decide)) (by rfl) T.g_Share T.b_m_Share_init .nil pass0 (pa_cons (pe_ix ix_tup (pv 7) pe_int (fun _ _ => rfl)) (pa_cons (pe_ix ix_tup (pv 7) pe_int (fun _ _ => rfl)) pa_nil))) (pa_cons (pv 8) pa_nil)))))
 (pss_cons (ps_if (PW.pt (pw_or (pt_not (pt_val (pe_callB call_isi (by rfl) T.z_isinstance (by decide +kernel) (pa_cons (pv 12) (pa_cons (pe_bltn (v := .ty "list") (by rfl) T.z_list (by decide +kernel) rfl) pa_nil))))) (pw_or1 (pt_not (pt_val (pe_callB (cr_all rfl) (by rfl) T.z_all (by decide +kernel) (pa_cons (pe_lc (own := [("_law_row_here", 14)]) (g := (gName 14)) (tt := tYes) (by rfl) sc_law.nd (pi_list (pv 12)) (blkOk_by (own := [("_law_row_here", 14)]) (N := ["_law_script", "_law_cell", "_law_well_here", "_law_signs", "_law_many", "_law_steps", "_law_rows_here", "_law_fade_here", "_law_machine_here", "_law_book_here", "_law_due", "_law_turn", "_law_told_here", "_law_last", "_law_row_here"]) (sc := defScope s_law) (by decide +kernel)) (fun _ _ _ _ _ => by exact (pg_name (i := 14) sc_law.nd rfl (.inl rfl))) (fun _ _ _ _ _ => by exact pts_nil) (fun _ _ _ _ _ => by exact (pe_callB (call_isiK (K := K) rfl) (by rfl) T.z_isinstance (by decide +kernel) (pa_cons (pv 14) (pa_cons (pe_bltn (v := .ty "list") (by rfl) T.z_list (by decide +kernel) rfl) pa_nil))))) pa_nil)))))))
  (pss_one (ps_ret pe_bl))
  pss_nil)
 (pss_cons (ps_if (pt_cmpR (op_neD hr.units) (pe_call (ok_l_told T) (hr.mono (by decide)) (by rfl) T.g_l_told T.F_l_told.kp T.b_l_told .nil pass0 (pa_cons (pv 12) pa_nil)) (pv 10) (nomark _))
  (pss_one (ps_ret pe_bl))
  pss_nil)
 (pss_cons (ps_expr (pe_bm PySem.F.plainAttrs_list PySem.F.slot_list_append PySem.F.type_list_append mt_append (pe_ix ix_list (pv 12) pe_int (fun _ _ => rfl)) (pa_cons pe_non pa_nil)))
 (pss_cons (ps_expr (pe_bm0 PySem.F.plainAttrs_list PySem.F.slot_list_pop PySem.F.type_list_pop mt_pop (pv 12)))
 (pss_cons (ps_set (i := 13) sc_law.nd rfl (.inl rfl) (pe_call (ok_p_worth T hw) (hr.mono (by decide)) (by rfl) T.g_p_worth T.F_p_worth.kp T.b_p_worth .nil pass0 (pa_cons (pv 9) (pa_cons (pe_make T.M_Share (ok_m_Share_init T) (hr.mono (by decide)) (by rfl) T.g_Share T.b_m_Share_init .nil pass0 (pa_cons (pe_ix ix_tup (pv 7) pe_int (fun _ _ => rfl)) (pa_cons (pe_ix ix_tup (pv 7) pe_int (fun _ _ => rfl)) pa_nil))) (pa_cons (pv 8) pa_nil)))))
 (pss_one (ps_if (pt_cmpR (op_neD hr.units) (pe_tup (pa_cons (pe_fld (pv 13) rfl) (pa_cons (pe_fld (pv 13) rfl) pa_nil))) (pe_ix ix_list (pe_ix ix_list (pv 10) (pe_un un_neg pe_int) (fun _ _ => rfl)) pe_int (fun _ _ => rfl)) (nomark _))
  (pss_one (ps_ret pe_bl))
  pss_nil)))))))))
 (pss_one (ps_if (PW.pt (pw_or (pt_cmpR (op_neD hr.units) (pe_call (ok_l_heads T) (hr.mono (by decide)) (by rfl) T.g_l_heads T.F_l_heads.kp T.b_l_heads .nil pass0 (pa_cons (pv 9) pa_nil)) (pe_call (ok_l_heads T) (hr.mono (by decide)) (by rfl) T.g_l_heads T.F_l_heads.kp T.b_l_heads .nil pass0 (pa_cons (pv 6) pa_nil)) (nomark _)) (pw_or1 (pt_cmpR op_ne (pe_fld (pv 8) rfl) (pv 4) (nomark _)))))
  (pss_one (ps_ret pe_bl))
  pss_nil))))))))))))
 (pss_one (ps_ret pe_bl))), ?_⟩
    refine ⟨_, rfl, 3, rfl, a, _, rfl, hS, fun c1 n1 => ?_⟩
    refine ⟨by show 1 ≤ sizeLine; decide, fun c2 n2 => ?_⟩
    have ne12 : c1 ≠ c2 := fun z => by
      rw [← z, upd_same] at n2
      cases n2
    refine ⟨c1, c2, _, _, rfl, rfl, by rw [upd_ne ne12]; exact upd_same, upd_same, ?_, fun c3 n3 => ?_⟩
    · have := cutV_length (ns.map V.int) none (some 3)
      rw [List.length_map] at this
      exact Nat.le_of_lt (small1000 (by show _ + 1 ≤ 1000; omega))
    generalize hH0 : upd (upd (upd H c1 (.lst (cutV (ns.map V.int) none (some 3)))) c2 (.lst [.int 0])) c3 (.lst (cutV (ns.map V.int) none (some 3) ++ [.int 0])) = H0
    have hc3 : H0 c3 = some (.lst (cutV (ns.map V.int) none (some 3) ++ [.int 0])) := by
      rw [← hH0]
      exact upd_same
    refine ⟨c3, rfl, ⟨_, SqL.of hc3⟩, for_list (K := K) (a := c3) (xs := cutV (ns.map V.int) none (some 3) ++ [.int 0])
      (fun i σ H' => ∃ y1 y2 y3 y4 y5 y6 y7 y8 y9 y10 y11 y12 y13 y14, σ = [some (.ref a), y1, y2, y3, y4, y5, y6, y7, y8, y9, y10, y11, y12, y13, y14] ∧ Same H0 H') ⟨_, _, _, _, _, _, _, _, _, _, _, _, _, _, rfl, Same.refl _⟩ (fun i σ H' _ h => ?_) (fun i x σ H' hx h => ?_) (fun σ H' h => ?_)⟩
    · obtain ⟨_, _, _, _, _, _, _, _, _, _, _, _, _, _, _, s0⟩ := h
      exact s0.seq (SqL.of hc3)
    · obtain ⟨y1, y2, y3, y4, y5, y6, y7, y8, y9, y10, y11, y12, y13, y14, rfl, s0⟩ := h
      obtain ⟨z, rfl⟩ := cells_int (more := [0]) hx
      refine ⟨_, rfl, z, rfl, fun aw H1 nA sA wA => ?_⟩
      have w1 := wA.mono (show 2750 ≤ 1099511627776 by decide)
      refine ⟨_, rfl, _, rfl, aw, 2, 2749, rfl, w1, by decide, by decide, fun d' H2 d0' d1' s2 w2 => ⟨_, _, rfl, rfl, ?_⟩⟩
      obtain ⟨k, hk, k1, k3⟩ : ∃ k : Nat, 2 + d' = (k : Int) ∧ 2 ≤ k ∧ k ≤ 3 := ⟨(2 + d').toNat, by omega, by omega, by omega⟩
      dsimp only
      rw [hk]
      refine ⟨aw, k, 2699, rfl, by omega, w2, fun H3 ps zs nps s3 w3 eps nok => ?_⟩
      have psa : ps ≠ aw := w2.ne nps
      refine ⟨_, rfl, _, rfl, _, rfl, _, rfl, ps, _, rfl, SqL.of eps, fun p1 np1 => ?_⟩
      obtain ⟨w4, s4⟩ := well_new (o := .lst (cutV (zs.map V.str) none (some (-1)))) w3 np1
      have p1a : p1 ≠ aw := w3.ne np1
      have ec : cutV (zs.map V.str) none (some (-1)) = (zs.take (k - 1)).map V.str := by
        rw [cut_neg1, List.length_map, nok.len, List.map_take]
      have ep1 : (upd H3 p1 (.lst (cutV (zs.map V.str) none (some (-1))))) p1 = some (.lst ((zs.take (k - 1)).map V.str)) := by rw [upd_same, ec]
      generalize upd H3 p1 (.lst (cutV (zs.map V.str) none (some (-1)))) = H4 at *
      have nok' : NmsOk (k - 1) (zs.take (k - 1)) := ⟨by rw [List.length_take, nok.len]; omega, nok.nd.sublist (List.take_sublist _ _), fun z hz => nok.all z (List.mem_of_mem_take hz), fun z hz => nok.src z (List.mem_of_mem_take hz)⟩
      refine ⟨aw, p1, zs.take (k - 1), k - 1, 4, 1499, rfl, by decide, by decide, by omega, by omega, nok', p1a, ep1, w4, fun H5 t l m vs ss s5 w5 m1 mm et nt nl el av ds => ?_⟩
      refine ⟨t, _, rfl, .inl (.inl et), rfl, _, _, rfl, _, _, rfl, rfl, ?_⟩
      obtain ⟨sok, lss, sss⟩ := ds.sums nok' (by omega) m1 (by omega)
      have sC : Same H0 (hid aw H5) := s0.trans (sA.trans (s2.trans (s3.trans (s4.trans s5))))
      have eps5 : (hid aw H5) ps = some (.lst (zs.map V.str)) := s5 _ _ (s4 _ _ (by rw [hid_ne psa]; exact eps))
      have la : l ≠ aw := w4.ne nl
      have el5 : hid aw H5 l = some (.lst vs) := by rw [hid_ne la]; exact el
      have av5 := av.imp fun _ _ h => h.hid w5
      clear s2 hk d0' d1' w1 w2 nA sA s3 w3 eps s4 s5 w4 et nt nl nps np1 ep1 el av ds
      -- the rows
      refine ⟨_, rfl, _, rfl, aw, ps, zs, 10, 1386, rfl, by decide, by decide, w5, eps5, by rw [nok.len]; omega, by rw [nok.len]; omega, nok.all, fun H6 p xs rs bk ne l10 s6 w6 ep ap => ?_⟩
      have B6 : Same (hid aw H5) (hid aw H6) := s6
      have el6 := s6 _ _ el5
      have av6 := av5.imp fun _ _ h => h.mono s6
      have sD := sC.trans s6
      clear s6 el5 av5 sC eps5 B6
      dsimp only [gName]
      refine seq_fin (t := tIfS _ _ _) (fun σ H' => ∃ (p : Addr) (xs : List V) (rs : List Rw), σ = [some (.ref a), some (.int z), some (.ref aw), some (.ref ps), some (.int m), some (.ref l), some (.ref p), y7, y8, y9, y10, y11, y12, y13, y14] ∧ BkOk rs ∧ rs ≠ [] ∧ rs.length ≤ 74 ∧ onc rs ≤ 10 ∧ lec rs ≤ 10 ∧ Same (hid aw H6) (hid aw H') ∧ WellAt H' aw 1300 ∧ hid aw H' p = some (.lst xs) ∧ AllAre (IsRw SL (hid aw H')) xs rs) (fun σ H7 h => ?_) (fun kn => ?_)
      · obtain ⟨p, xs, rs, rfl, bk, ne, l74, lo, le, s7, w7, ep, ap⟩ := h
        have el7 := s7 _ _ el6
        have av7 := av6.imp fun _ _ h => h.mono s7
        have sE := sD.trans s7
        refine ⟨_, rfl, aw, 1297, rfl, w7, fun H8 t8 kf df s8 w8 et8 kf1 kfd d102 => ?_⟩
        have el8 := hid_same _ _ (s8 _ _ el7)
        have av8 := av7.imp fun _ _ h => (h.mono s8).mono hid_same
        have ep8 := hid_same _ _ (s8 _ _ ep)
        have ap8 := ap.imp fun _ _ h => (h.mono SL.m s8).mono SL.m hid_same
        have sF : Same H0 H8 := (sE.trans s8).trans hid_same
        clear s8 w8 el7 av7 ep ap sE s7 w7 el6 av6 sD
        obtain ⟨x0, x1, bx, xd⟩ := fdx kf1 kfd d102
        -- the machine and the book
        refine ⟨_, rfl, _, rfl, l, _, rfl, .inl (SqL.of el8), fun l2 nl2 => ?_⟩
        have t2 := same_upd (o := .lst vs) nl2
        dsimp only [tNil]
        refine mk_mach ⟨l2, vs, rfl, upd_same, av8.imp fun _ _ h => h.mono t2⟩ sok fun H9 xm out t3 nxm im so => ?_
        have mok := mok_of sok so
        have s89 : Same H8 H9 := t2.trans t3
        obtain ⟨osum, olen⟩ := out_sums so (c := 80) fun s hs => Nat.le_trans (sss s hs) (by omega)
        have lout : out.length ≤ 8 := by
          have : m * (k - 1) ≤ 4 * 2 := Nat.mul_le_mul mm (by omega)
          omega
        have gl : grainF 1 out < 2 ^ 57 := grain_bd (S := 7) (N := 8) osum (by decide) lout (by decide)
        refine ⟨_, rfl, p, xs, rs, rfl, s89 _ _ ep8, ap8.imp fun _ _ h => h.mono SL.m s89, bk, by omega, fun H10 b ys s10 eb ab => ?_⟩
        have s810 := s89.trans s10
        obtain ⟨x, hx⟩ : ∃ x, x = Rat.divInt (kf : Int) (df : Int) := ⟨_, rfl⟩
        rw [← hx] at x0 x1 bx xd
        have hx0 : 0 ≤ x.num := by
          have : (0 : Int) * (x.den : Int) < x.num * 1 := (Rat.lt_iff _ _).mp x0
          omega
        have hx1 : x.num ≤ x.den := by
          have : x.num * 1 < 1 * (x.den : Int) := (Rat.lt_iff _ _).mp x1
          omega
        have gdv : grainF 1 (doorsL m out).flatten ∣ grainF 1 out := grainF_of (Nat.one_dvd _) fun s hs => (grainF_dvd out 1).2 s (doors_flat hs)
        have go : 0 < grainF 1 out := grainF_pos Nat.one_pos fun s hs => mok_sum mok hs
        have g0 : 0 < grainF 1 (doorsL m out).flatten := grainF_pos Nat.one_pos fun s hs => mok_sum mok (doors_flat hs)
        have gx0 : 0 < grainF 1 (doorsL m out).flatten * x.den := Nat.mul_pos g0 x.den_pos
        have gxl : grainF 1 (doorsL m out).flatten * x.den < 2 ^ 64 := by
          rw [show 64 = 57 + 7 from rfl, Nat.pow_add]
          exact Nat.mul_lt_mul'' (Nat.lt_of_le_of_lt (Nat.le_of_dvd go gdv) gl) xd
        have rall : ∀ r ∈ rs, ∃ i, RwOk i r := fun r hr => by
          obtain ⟨i, hi, e⟩ := List.mem_iff_getElem.mp hr
          exact ⟨i, bk i r (by rw [List.getElem?_eq_getElem hi, e])⟩
        have hB : ∀ n, n ≤ rs.length → ∀ j, j < n → ((vals x m (doorsL m ss) (rs.take n)).getD j []).length = m ∧ ∀ q ∈ (vals x m (doorsL m ss) (rs.take n)).getD j [], Bd 1800 q := fun n hn j hj => by
          rw [vals_raw sok so]
          have h1 := vals_lev bk (doors_ok mok) hx0 hx1 (shP_pos rs) gx0 (shP_dvd rall) n hn j hj
          have h2 := botF_lt gxl (rs.take n) (shP_lt rall)
          have h3 := onc_take rs n
          obtain ⟨h4, h5⟩ := h1.bd (botF_pos gx0 (shP_pos rs) _) (Nat.lt_of_lt_of_le h2 (Nat.pow_le_pow_right (i := 1 + 100 * lec rs + 64 * onc (rs.take n)) (j := 1800) (by decide) (by omega)))
          exact ⟨h4, fun q hq => (h5 q hq).1⟩
        have ep10 := s810 _ _ ep8
        have ap10 := ap8.imp fun _ _ h => h.mono SL.m s810
        have sum7 : ∀ s ∈ ss, s.ws.sum < 2 ^ 7 := fun s hs => Nat.lt_of_le_of_lt (Nat.le_trans (sss s hs) (show m * 20 ≤ 80 by omega)) (by decide)
        refine ⟨_, _, rfl, _, rfl, _, rfl, _, rfl, _, rfl, .ref t8, p, l, kf, df, m, vs, xs, ss, rs, rfl, ep10, ap10, bk, by omega, ⟨t8, rfl, s810 _ _ et8⟩, by omega, by omega, d102, s810 _ _ el8, av8.imp fun _ _ h => h.mono s810, sok, mm, sum7, by rw [← hx]; exact hB, fun H11 F fvs s11 eF lF lvF => ?_⟩
        rw [← hx, vals_raw sok so] at lvF
        have s811 := s810.trans s11
        have et11 := s811 _ _ et8
        have im11 := im.mono (s10.trans s11)
        have eb11 := s11 _ _ eb
        have ab11 := ab.imp fun _ _ h => h.mono (SB.m _) s11
        have ep11 := s11 _ _ ep10
        have ap11 := ap10.imp fun _ _ h => h.mono SL.m s11
        have s011 := sF.trans s811
        have lvl : (vals x m (doorsL m out) rs).length = rs.length := vals_len _ _ _ _
        clear s810 s811 s89 t2 t3 s10 s11 im nl2 nxm eb ab ep10 ap10 ep8 ap8 el8 av8 et8 sF hB
        refine ⟨2, rfl, by decide, by decide, for_range (lo := 0) (n := (2 : Int).toNat) (fun i σ H' => ∃ y11 y12 y13 y14, σ = [some (.ref a), some (.int z), some (.ref aw), some (.ref ps), some (.int m), some (.ref l), some (.ref p), some (.ref t8), some (.ref xm), some (.ref b), some (.ref F), y11, y12, y13, y14] ∧ Same H11 H') ⟨_, _, _, _, rfl, Same.refl _⟩ (fun i σ H12 hi h => ?_) (fun σ H12 h => ?_)⟩
        · obtain ⟨y11, y12, y13, y14, rfl, s12⟩ := h
          have sqT : SqT K H12 t8 [.int (kf : Int), .int (df : Int)] := .inl (.inl (s12 _ _ et11))
          refine ⟨_, rfl, _, rfl, t8, _, _, _, rfl, rfl, sqT, atI_nat (j := 0) rfl, _, rfl, t8, _, _, _, rfl, rfl, sqT, atI_nat (j := 1) rfl, ?_⟩
          refine mk_share (t := (kf : Int)) (b := (df : Int)) (by omega) (log_small (by omega)) fun H13 r13 s13 h13 => ?_
          rw [← hx] at h13
          have s1113 := s12.trans s13
          refine ⟨_, rfl, b, .ref r13, .ref xm, ys, rs, x, m, 57, 7, out, rfl, s1113 _ _ eb11, ab11.imp fun _ _ h => h.mono (SB.m _) s1113, bk, ne, by omega, h13, x0, x1, bx.mono (by decide), im11.mono s1113, mok, ⟨gl, xd, by omega⟩, fun H14 p14 ws s14 np14 e14 l14 h14 => ?_⟩
          have s1114 := s1113.trans s14
          refine ⟨_, rfl, _, _, _, _, true, rfl, .ty _, .base (.lst e14), kit_ty (by decide +kernel), true, rfl, iteF ?_⟩
          refine ⟨_, rfl, p14, rfl, ⟨_, SqL.of e14⟩, fun D nD => lc_allW (walk_list (K := K) (a := p14) (xs := ws)) (fun _ y _ => y = .bl true) (fun _ _ _ _ _ h => h) nD (fun H' s => SqL.of (s _ _ e14)) (by omega) (fun j u H15 H16 kk hj s15 eD y hk => ?_) (fun H15 ys6 s15 e15 l15 r15 => ?_)⟩
          · obtain ⟨rfl, hv⟩ := y
            obtain ⟨aL, vL, rfl, _, hL, _⟩ := h14 j _ hv
            exact ⟨rfl, _, rfl, _, _, _, _, true, rfl, .ty _, .base (.lst (hid_same _ _ (s15 _ _ hL))), kit_ty (by decide +kernel), hk _ _ (Same.refl _) rfl⟩
          · rw [trues l15 r15] at e15
            refine ⟨D, _, rfl, SqL.of e15, true, by rw [all_trues], iteF ?_⟩
            have s1415 : Same H14 H15 := s15.trans hid_same
            have lall : ∀ j, j < rs.length → ((vals x m (doorsL m out) rs).getD j []).length = m := fun j hj => vals_all bk (doors_ok mok).len hj
            refine ⟨_, rfl, p14, ws, vals x m (doorsL m out) rs, rfl, s1415 _ _ e14, by omega, fun j u hu => ?_, fun H17 D7 tl s17 e17 l17 h17 => ?_⟩
            · obtain ⟨aL, vL, e, _, hL, al⟩ := h14 j u hu
              have hj := (List.getElem?_eq_some_iff.mp hu).1
              exact ⟨aL, vL, e, s1415 _ _ hL, by rw [al.1, lall j (by omega)]; omega, al.imp fun _ _ h => h.mono s1415⟩
            have s1417 := s1415.trans s17
            have s1117 := s1114.trans s1417
            refine ⟨_, rfl, _, _, .lst (SqL.of e17) (dpAll_fs (are_fs (by omega) h17)), .lst (SqL.of (s1117 _ _ eF)) (dpAll_fs (are_fs (by omega) fun j u hu => (lvF j u hu).mono s1117)), shaped_fs _, shaped_fs _, ?_⟩
            rw [SeqAt.eqv_refl _ (SeqAt.canLay_of_shaped (shaped_fs _))]
            refine ⟨_, rfl, iteF ?_⟩
            have l1 : 0 < ws.length := by
              have := List.length_pos_iff.mpr ne
              omega
            have hv0 := List.getElem?_eq_getElem l1
            obtain ⟨aL, vL, eaL, naL, hL, alL⟩ := h14 0 _ hv0
            rw [eaL] at hv0
            have e17p := s1417 _ _ e14
            have hL17 := s1417 _ _ hL
            have lvL : vL.length = m := by rw [alL.1, lall 0 (by omega)]
            have nea : p14 ≠ aL := fun z => by
              rw [z, hL] at e14
              have ev : vL = ws := HO.lst.inj (Option.some.inj e14)
              obtain ⟨q0, _, pp, dd, e1, h1⟩ := alL.at (show vL[0]? = some (V.ref aL) by rw [ev]; exact hv0)
              cases e1
              rw [hL] at h1
              cases h1
            refine ⟨_, rfl, p14, _, _, _, rfl, rfl, SqL.of e17p, atI_nat (j := 0) hv0, .inl ⟨rfl, _, SqL.of hL17⟩, aL, _, _, rfl, rfl, hL17, small1000 (by omega), ?_⟩
            have e18p : (upd H17 aL (.lst (vL ++ [.non]))) p14 = some (.lst ws) := by rw [upd_ne nea]; exact e17p
            refine ⟨_, rfl, .inl ⟨rfl, _, SqL.of e18p⟩, p14, ws, ws[ws.length - 1], rfl, rfl, e18p, List.getElem?_eq_getElem (by omega), ?_⟩
            have s1319 : Same H13 (upd (upd H17 aL (.lst (vL ++ [.non]))) p14 (.lst ws.dropLast)) := same_over (same_over (s14.trans s1417) naL) np14
            generalize upd (upd H17 aL (.lst (vL ++ [.non]))) p14 (.lst ws.dropLast) = H19 at *
            have s1119 := s1113.trans s1319
            clear e18p e17p hL17 hL alL naL nea hv0 eaL s1417 s1117 s17 e17 h17 s1415 s15 e15 h14 e14 np14 s14 s1114
            -- the last
            have sqT9 : SqT K H19 t8 [.int (kf : Int), .int (df : Int)] := .inl (.inl (s1119 _ _ et11))
            refine ⟨_, rfl, _, rfl, t8, _, _, _, rfl, rfl, sqT9, atI_nat (j := 0) rfl, _, rfl, t8, _, _, _, rfl, rfl, sqT9, atI_nat (j := 1) rfl, ?_⟩
            refine mk_share (t := (kf : Int)) (b := (df : Int)) (by omega) (log_small (by omega)) fun H20 r20 s20 h20 => ?_
            rw [← hx] at h20
            have s1120 := s1119.trans s20
            obtain ⟨n, hn⟩ : ∃ n, rs.length = n + 1 := ⟨rs.length - 1, by have := List.length_pos_iff.mpr ne; omega⟩
            refine ⟨_, rfl, b, .ref r20, .ref xm, ys, rs, x, m, 57, 7, n, out, rfl, s1120 _ _ eb11, ab11.imp fun _ _ h => h.mono (SB.m _) s1120, bk, hn, by omega, h20, x0, x1, bx.mono (by decide), im11.mono s1120, mok, ⟨gl, xd, by omega⟩, fun H21 r21 q21 s21 c21 h21 => ?_⟩
            obtain ⟨pr, dxr, rfl, hr⟩ := h21
            have s1121 := s1120.trans s21
            have hFl : n < fvs.length := by omega
            have hFv := List.getElem?_eq_getElem hFl
            obtain ⟨aF, vF, eaF, hF1, alF⟩ := (lvF n _ hFv).mono s1121
            rw [eaF] at hFv
            have lvF0 : 0 < vF.length := by rw [alF.1, lall n (by omega)]; omega
            have hvF := List.getElem?_eq_getElem lvF0
            obtain ⟨q1, hq1, sl1⟩ := alF.at hvF
            rw [c21] at hq1
            cases hq1
            refine ⟨_, rfl, _, _, _, _, _, rfl, hr, T.cl_Share, T.n_Share_top, flds_top _, _, rfl, _, _, _, _, _, rfl, hr, T.cl_Share, T.n_Share_bottom, flds_bottom _, by show 2 ≤ sizeLine; decide, fun t nt => ?_⟩
            have st := same_upd (o := .tup [.int q21.num, .int (q21.den : Int)]) nt
            refine ⟨_, rfl, _, rfl, F, _, _, _, rfl, rfl, SqL.of (st _ _ (s1121 _ _ eF)), atI_m1 (by omega) hFv, aF, _, _, _, rfl, rfl, SqL.of (st _ _ hF1), atI_nat (j := 0) hvF, ?_⟩
            refine ⟨_, _, IsTup2.dp ⟨t, rfl, upd_same⟩, IsTup2.dp (sl1.mono st), rfl, rfl, ?_⟩
            rw [eqv_tup2]
            have e : (!(q21.num == q21.num && (q21.den : Int) == (q21.den : Int))) = false := by simp
            rw [e]
            exact ⟨_, rfl, iteF ⟨_, _, _, _, rfl, s1121.trans st⟩⟩
        · obtain ⟨y11, y12, y13, y14, rfl, s12⟩ := h
          refine ⟨_, rfl, SB T.c_Share, b, ys, rs, rfl, SB.m _, s12 _ _ eb11, ab11.imp fun _ _ h => h.mono (SB.m _) s12, bk, by omega, fun H13 b7 ys7 s7 e7 a7 => ?_⟩
          refine ⟨_, rfl, SL, p, xs, rs, rfl, SL.m, s7 _ _ (s12 _ _ ep11), ap11.imp fun _ _ h => h.mono SL.m (s12.trans s7), bk, by omega, fun H14 b8 ys8 s8 e8 a8 => ?_⟩
          refine ne_hds bk (s8 _ _ e7) e8 (a7.imp fun _ _ h => h.mono s8) a8 ⟨false, rfl, iteF ?_⟩
          obtain ⟨px, dx, r0, svs, e, hp, hr0, _⟩ := im11.mono (s12.trans (s7.trans s8))
          cases e
          refine ⟨_, rfl, xm, _, _, _, _, rfl, hp, T.cl_Machine, T.n_Machine_many, mflds_many m r0, _, rfl, rfl, _, rfl, ?_⟩
          rw [decide_eq_true rfl]
          exact iteF ⟨_, _, _, _, _, _, _, _, _, _, _, _, _, _, rfl, s011.trans (s12.trans (s7.trans s8))⟩
      · refine ⟨_, rfl, aw, 6, 1385, rfl, w6, by decide, by decide, fun d H7 d0 d1 s7 w7 => ⟨rfl, _, rfl, ite2 (fun h => ?_) (fun h => ?_)⟩⟩
        · refine ⟨_, rfl, _, rfl, aw, p, xs, rs, 1300, rfl, w7.mono (by decide), s7 _ _ ep, ap.imp fun _ _ h => h.mono SL.m s7, bk, ne, by omega, fun H8 b ys rs' bk' ne' l74 lo le s8 w8 eb ab => ?_⟩
          have := onc_le rs
          have := lec_le rs
          exact kn _ _ ⟨b, ys, rs', rfl, bk', ne', l74, by omega, by omega, s7.trans s8, w8, eb, ab⟩
        · have := onc_le rs
          have := lec_le rs
          exact kn _ _ ⟨p, xs, rs, rfl, bk, ne, by omega, by omega, by omega, s7, w7.mono (by decide), s7 _ _ ep, ap.imp fun _ _ h => h.mono SL.m s7⟩
    · obtain ⟨_, _, _, _, _, _, _, _, _, _, _, _, _, _, rfl, _⟩ := h
      exact q _
end

end Fb

namespace Fb
open PySem PySem.Spec PyProof.Rows L2
set_option maxHeartbeats 4000000 in
theorem all_mk {l : PySem.W.OpenLaw} {w : World} {K : PySem.W.Frag} {h : Heap} {mg : Str → Option Value} {fa : Addr} (X : K.In h) (G : h.Ns mainGlobals mg) (hfa : mg "law" = some (.ref fa))
    {c_FarError c_NoShare c_NoMachine c_NoFade c_NoBook c_Share c_Machine f_m_NoMachine_init f_p_is_whole f_p_is_name f_p_written f_m_Share_init t_m_Share_init f_m_Share_eq f_m_Share_str f_p_common_part f_p_common_multiple f_p_lowest_share f_p_grain_of f_p_even_level f_p_stepped f_p_awaited f_p_lowered f_p_shared_part f_p_same_bottoms f_p_shares_at f_p_share_by f_p_is_such f_p_is_row f_p_check_book f_p_book_grain f_p_level_of f_p_faded f_p_inverse f_p_lessened f_p_check_fade f_m_Machine_init f_m_Machine_eq f_m_Machine_len f_p_is_room f_p_are_weights f_p_is_step f_p_are_steps f_p_lowest f_p_doors_of f_p_worths f_p_worth f_l_well f_l_draw f_l_one f_l_names f_l_weights f_l_machine f_l_fade f_l_low f_l_less f_l_minus f_l_share f_l_row f_l_rows f_l_book f_l_onward f_l_on f_l_worths_of f_l_worths f_l_doubled f_l_told f_l_heads f_law u_FORMS t_FORMS_0 t_FORMS_1 t_FORMS_2 t_FORMS_3 t_FORMS_4 t_FORMS_5 t_FORMS_6 : Addr} {od_m_NoMachine_init an_m_NoMachine_init od_p_is_whole an_p_is_whole od_p_is_name an_p_is_name od_p_written an_p_written od_m_Share_init an_m_Share_init odt_m_Share_init od_m_Share_eq an_m_Share_eq od_m_Share_str an_m_Share_str od_p_common_part an_p_common_part od_p_common_multiple an_p_common_multiple od_p_lowest_share an_p_lowest_share od_p_grain_of an_p_grain_of od_p_even_level an_p_even_level od_p_stepped an_p_stepped od_p_awaited an_p_awaited od_p_lowered an_p_lowered od_p_shared_part an_p_shared_part od_p_same_bottoms an_p_same_bottoms od_p_shares_at an_p_shares_at od_p_share_by an_p_share_by od_p_is_such an_p_is_such od_p_is_row an_p_is_row od_p_check_book an_p_check_book od_p_book_grain an_p_book_grain od_p_level_of an_p_level_of od_p_faded an_p_faded od_p_inverse an_p_inverse od_p_lessened an_p_lessened od_p_check_fade an_p_check_fade od_m_Machine_init an_m_Machine_init od_m_Machine_eq an_m_Machine_eq od_m_Machine_len an_m_Machine_len od_p_is_room an_p_is_room od_p_are_weights an_p_are_weights od_p_is_step an_p_is_step od_p_are_steps an_p_are_steps od_p_lowest an_p_lowest od_p_doors_of an_p_doors_of od_p_worths an_p_worths od_p_worth an_p_worth od_l_well an_l_well od_l_draw an_l_draw od_l_one an_l_one od_l_names an_l_names od_l_weights an_l_weights od_l_machine an_l_machine od_l_fade an_l_fade od_l_low an_l_low od_l_less an_l_less od_l_minus an_l_minus od_l_share an_l_share od_l_row an_l_row od_l_rows an_l_rows od_l_book an_l_book od_l_onward an_l_onward od_l_on an_l_on od_l_worths_of an_l_worths_of od_l_worths an_l_worths od_l_doubled an_l_doubled od_l_told an_l_told od_l_heads an_l_heads od_law an_law : Option Addr} {sl_m_NoMachine_init sl_p_is_whole sl_p_is_name sl_p_written sl_m_Share_init slt_m_Share_init sl_m_Share_eq sl_m_Share_str sl_p_common_part sl_p_common_multiple sl_p_lowest_share sl_p_grain_of sl_p_even_level sl_p_stepped sl_p_awaited sl_p_lowered sl_p_shared_part sl_p_same_bottoms sl_p_shares_at sl_p_share_by sl_p_is_such sl_p_is_row sl_p_check_book sl_p_book_grain sl_p_level_of sl_p_faded sl_p_inverse sl_p_lessened sl_p_check_fade sl_m_Machine_init sl_m_Machine_eq sl_m_Machine_len sl_p_is_room sl_p_are_weights sl_p_is_step sl_p_are_steps sl_p_lowest sl_p_doors_of sl_p_worths sl_p_worth sl_l_well sl_l_draw sl_l_one sl_l_names sl_l_weights sl_l_machine sl_l_fade sl_l_low sl_l_less sl_l_minus sl_l_share sl_l_row sl_l_rows sl_l_book sl_l_onward sl_l_on sl_l_worths_of sl_l_worths sl_l_doubled sl_l_told sl_l_heads sl_law : Array (Option Value)} {oc_m_NoMachine_init kV_m_NoMachine_init dc_m_NoMachine_init pm_m_NoMachine_init cd_m_NoMachine_init ct_m_NoMachine_init oc_p_is_whole kV_p_is_whole dc_p_is_whole pm_p_is_whole cd_p_is_whole ct_p_is_whole oc_p_is_name kV_p_is_name dc_p_is_name pm_p_is_name cd_p_is_name ct_p_is_name oc_p_written kV_p_written dc_p_written pm_p_written cd_p_written ct_p_written oc_m_Share_init kV_m_Share_init dc_m_Share_init pm_m_Share_init cd_m_Share_init ct_m_Share_init oct_m_Share_init oc_m_Share_eq kV_m_Share_eq dc_m_Share_eq pm_m_Share_eq cd_m_Share_eq ct_m_Share_eq oc_m_Share_str kV_m_Share_str dc_m_Share_str pm_m_Share_str cd_m_Share_str ct_m_Share_str oc_p_common_part kV_p_common_part dc_p_common_part pm_p_common_part cd_p_common_part ct_p_common_part oc_p_common_multiple kV_p_common_multiple dc_p_common_multiple pm_p_common_multiple cd_p_common_multiple ct_p_common_multiple oc_p_lowest_share kV_p_lowest_share dc_p_lowest_share pm_p_lowest_share cd_p_lowest_share ct_p_lowest_share oc_p_grain_of kV_p_grain_of dc_p_grain_of pm_p_grain_of cd_p_grain_of ct_p_grain_of oc_p_even_level kV_p_even_level dc_p_even_level pm_p_even_level cd_p_even_level ct_p_even_level oc_p_stepped kV_p_stepped dc_p_stepped pm_p_stepped cd_p_stepped ct_p_stepped oc_p_awaited kV_p_awaited dc_p_awaited pm_p_awaited cd_p_awaited ct_p_awaited oc_p_lowered kV_p_lowered dc_p_lowered pm_p_lowered cd_p_lowered ct_p_lowered oc_p_shared_part kV_p_shared_part dc_p_shared_part pm_p_shared_part cd_p_shared_part ct_p_shared_part oc_p_same_bottoms kV_p_same_bottoms dc_p_same_bottoms pm_p_same_bottoms cd_p_same_bottoms ct_p_same_bottoms oc_p_shares_at kV_p_shares_at dc_p_shares_at pm_p_shares_at cd_p_shares_at ct_p_shares_at oc_p_share_by kV_p_share_by dc_p_share_by pm_p_share_by cd_p_share_by ct_p_share_by oc_p_is_such kV_p_is_such dc_p_is_such pm_p_is_such cd_p_is_such ct_p_is_such oc_p_is_row kV_p_is_row dc_p_is_row pm_p_is_row cd_p_is_row ct_p_is_row oc_p_check_book kV_p_check_book dc_p_check_book pm_p_check_book cd_p_check_book ct_p_check_book oc_p_book_grain kV_p_book_grain dc_p_book_grain pm_p_book_grain cd_p_book_grain ct_p_book_grain oc_p_level_of kV_p_level_of dc_p_level_of pm_p_level_of cd_p_level_of ct_p_level_of oc_p_faded kV_p_faded dc_p_faded pm_p_faded cd_p_faded ct_p_faded oc_p_inverse kV_p_inverse dc_p_inverse pm_p_inverse cd_p_inverse ct_p_inverse oc_p_lessened kV_p_lessened dc_p_lessened pm_p_lessened cd_p_lessened ct_p_lessened oc_p_check_fade kV_p_check_fade dc_p_check_fade pm_p_check_fade cd_p_check_fade ct_p_check_fade oc_m_Machine_init kV_m_Machine_init dc_m_Machine_init pm_m_Machine_init cd_m_Machine_init ct_m_Machine_init oc_m_Machine_eq kV_m_Machine_eq dc_m_Machine_eq pm_m_Machine_eq cd_m_Machine_eq ct_m_Machine_eq oc_m_Machine_len kV_m_Machine_len dc_m_Machine_len pm_m_Machine_len cd_m_Machine_len ct_m_Machine_len oc_p_is_room kV_p_is_room dc_p_is_room pm_p_is_room cd_p_is_room ct_p_is_room oc_p_are_weights kV_p_are_weights dc_p_are_weights pm_p_are_weights cd_p_are_weights ct_p_are_weights oc_p_is_step kV_p_is_step dc_p_is_step pm_p_is_step cd_p_is_step ct_p_is_step oc_p_are_steps kV_p_are_steps dc_p_are_steps pm_p_are_steps cd_p_are_steps ct_p_are_steps oc_p_lowest kV_p_lowest dc_p_lowest pm_p_lowest cd_p_lowest ct_p_lowest oc_p_doors_of kV_p_doors_of dc_p_doors_of pm_p_doors_of cd_p_doors_of ct_p_doors_of oc_p_worths kV_p_worths dc_p_worths pm_p_worths cd_p_worths ct_p_worths oc_p_worth kV_p_worth dc_p_worth pm_p_worth cd_p_worth ct_p_worth oc_l_well kV_l_well dc_l_well pm_l_well cd_l_well ct_l_well oc_l_draw kV_l_draw dc_l_draw pm_l_draw cd_l_draw ct_l_draw oc_l_one kV_l_one dc_l_one pm_l_one cd_l_one ct_l_one oc_l_names kV_l_names dc_l_names pm_l_names cd_l_names ct_l_names oc_l_weights kV_l_weights dc_l_weights pm_l_weights cd_l_weights ct_l_weights oc_l_machine kV_l_machine dc_l_machine pm_l_machine cd_l_machine ct_l_machine oc_l_fade kV_l_fade dc_l_fade pm_l_fade cd_l_fade ct_l_fade oc_l_low kV_l_low dc_l_low pm_l_low cd_l_low ct_l_low oc_l_less kV_l_less dc_l_less pm_l_less cd_l_less ct_l_less oc_l_minus kV_l_minus dc_l_minus pm_l_minus cd_l_minus ct_l_minus oc_l_share kV_l_share dc_l_share pm_l_share cd_l_share ct_l_share oc_l_row kV_l_row dc_l_row pm_l_row cd_l_row ct_l_row oc_l_rows kV_l_rows dc_l_rows pm_l_rows cd_l_rows ct_l_rows oc_l_book kV_l_book dc_l_book pm_l_book cd_l_book ct_l_book oc_l_onward kV_l_onward dc_l_onward pm_l_onward cd_l_onward ct_l_onward oc_l_on kV_l_on dc_l_on pm_l_on cd_l_on ct_l_on oc_l_worths_of kV_l_worths_of dc_l_worths_of pm_l_worths_of cd_l_worths_of ct_l_worths_of oc_l_worths kV_l_worths dc_l_worths pm_l_worths cd_l_worths ct_l_worths oc_l_doubled kV_l_doubled dc_l_doubled pm_l_doubled cd_l_doubled ct_l_doubled oc_l_told kV_l_told dc_l_told pm_l_told cd_l_told ct_l_told oc_l_heads kV_l_heads dc_l_heads pm_l_heads cd_l_heads ct_l_heads oc_law kV_law dc_law pm_law cd_law ct_law : Value} {tk0_m_Share_init : _} {tkc_LETTERS : _} {tkc_LONGEST_NAME : _} {tkc_PIECE_LENGTH : _} {tkc_MOST_ROOMS : _} {nt_m_Share_init : _} {e_FORMS : Array DictEntry} {n_FORMS : Nat}  {nd_FORMS_0 : _} {od_FORMS_0 : Option Addr} {sd_FORMS_0 : Array (Option Value)}  {td0_FORMS_1 : _} {nd_FORMS_1 : _} {od_FORMS_1 : Option Addr} {sd_FORMS_1 : Array (Option Value)}  {td0_FORMS_2 : _} {td1_FORMS_2 : _} {nd_FORMS_2 : _} {od_FORMS_2 : Option Addr} {sd_FORMS_2 : Array (Option Value)}  {td0_FORMS_3 : _} {nd_FORMS_3 : _} {od_FORMS_3 : Option Addr} {sd_FORMS_3 : Array (Option Value)}  {td0_FORMS_4 : _} {td1_FORMS_4 : _} {nd_FORMS_4 : _} {od_FORMS_4 : Option Addr} {sd_FORMS_4 : Array (Option Value)}  {td0_FORMS_5 : _} {td1_FORMS_5 : _} {nd_FORMS_5 : _} {od_FORMS_5 : Option Addr} {sd_FORMS_5 : Array (Option Value)}  {td0_FORMS_6 : _} {td1_FORMS_6 : _} {nd_FORMS_6 : _} {od_FORMS_6 : Option Addr} {sd_FORMS_6 : Array (Option Value)}
    (a_FarError : PySem.W.nsIn K mainGlobals "FarError" = some (some (.ref c_FarError)))
    (a_NoShare : PySem.W.nsIn K mainGlobals "NoShare" = some (some (.ref c_NoShare)))
    (a_NoMachine : PySem.W.nsIn K mainGlobals "NoMachine" = some (some (.ref c_NoMachine)))
    (a_NoFade : PySem.W.nsIn K mainGlobals "NoFade" = some (some (.ref c_NoFade)))
    (a_NoBook : PySem.W.nsIn K mainGlobals "NoBook" = some (some (.ref c_NoBook)))
    (a_Share : PySem.W.nsIn K mainGlobals "Share" = some (some (.ref c_Share)))
    (a_Machine : PySem.W.nsIn K mainGlobals "Machine" = some (some (.ref c_Machine)))
    (a_m_NoMachine_init : PySem.W.findIn K (.ref c_NoMachine) "__init__" = some (some (.ref f_m_NoMachine_init)))
    (l_m_NoMachine_init : K.lookup f_m_NoMachine_init = some ⟨oc_m_NoMachine_init, od_m_NoMachine_init, .func (PySem.W.fnOf "__init__" "NoMachine.__init__" (defArgs s_m_NoMachine_init) (defBody s_m_NoMachine_init) (defScope s_m_NoMachine_init) .none kV_m_NoMachine_init dc_m_NoMachine_init pm_m_NoMachine_init an_m_NoMachine_init cd_m_NoMachine_init ct_m_NoMachine_init), sl_m_NoMachine_init⟩)
    (c_m_NoMachine_init_ : PySem.W.codeIn K cd_m_NoMachine_init "NoMachine.__init__" = true)
    (k_m_NoMachine_init_ : PySem.W.keepIn K (.ref f_m_NoMachine_init) = true)
    (a_p_is_whole : PySem.W.nsIn K mainGlobals "is_whole" = some (some (.ref f_p_is_whole)))
    (l_p_is_whole : K.lookup f_p_is_whole = some ⟨oc_p_is_whole, od_p_is_whole, .func (PySem.W.fnOf "is_whole" "is_whole" (defArgs s_p_is_whole) (defBody s_p_is_whole) (defScope s_p_is_whole) .none kV_p_is_whole dc_p_is_whole pm_p_is_whole an_p_is_whole cd_p_is_whole ct_p_is_whole), sl_p_is_whole⟩)
    (c_p_is_whole_ : PySem.W.codeIn K cd_p_is_whole "is_whole" = true)
    (k_p_is_whole_ : PySem.W.keepIn K (.ref f_p_is_whole) = true)
    (a_p_is_name : PySem.W.nsIn K mainGlobals "is_name" = some (some (.ref f_p_is_name)))
    (l_p_is_name : K.lookup f_p_is_name = some ⟨oc_p_is_name, od_p_is_name, .func (PySem.W.fnOf "is_name" "is_name" (defArgs s_p_is_name) (defBody s_p_is_name) (defScope s_p_is_name) .none kV_p_is_name dc_p_is_name pm_p_is_name an_p_is_name cd_p_is_name ct_p_is_name), sl_p_is_name⟩)
    (c_p_is_name_ : PySem.W.codeIn K cd_p_is_name "is_name" = true)
    (k_p_is_name_ : PySem.W.keepIn K (.ref f_p_is_name) = true)
    (a_p_written : PySem.W.nsIn K mainGlobals "written" = some (some (.ref f_p_written)))
    (l_p_written : K.lookup f_p_written = some ⟨oc_p_written, od_p_written, .func (PySem.W.fnOf "written" "written" (defArgs s_p_written) (defBody s_p_written) (defScope s_p_written) .none kV_p_written dc_p_written pm_p_written an_p_written cd_p_written ct_p_written), sl_p_written⟩)
    (c_p_written_ : PySem.W.codeIn K cd_p_written "written" = true)
    (k_p_written_ : PySem.W.keepIn K (.ref f_p_written) = true)
    (a_m_Share_init : PySem.W.findIn K (.ref c_Share) "__init__" = some (some (.ref f_m_Share_init)))
    (l_m_Share_init : K.lookup f_m_Share_init = some ⟨oc_m_Share_init, od_m_Share_init, .func (PySem.W.fnOf "__init__" "Share.__init__" (defArgs s_m_Share_init) (defBody s_m_Share_init) (defScope s_m_Share_init) (.ref t_m_Share_init) kV_m_Share_init dc_m_Share_init pm_m_Share_init an_m_Share_init cd_m_Share_init ct_m_Share_init), sl_m_Share_init⟩)
    (lt_m_Share_init : K.lookup t_m_Share_init = some ⟨oct_m_Share_init, odt_m_Share_init, .seq (List.toArray [Value.int 1 tk0_m_Share_init]) nt_m_Share_init, slt_m_Share_init⟩)
    (c_m_Share_init_ : PySem.W.codeIn K cd_m_Share_init "Share.__init__" = true)
    (k_m_Share_init_ : PySem.W.keepIn K (.ref f_m_Share_init) = true)
    (a_m_Share_eq : PySem.W.findIn K (.ref c_Share) "__eq__" = some (some (.ref f_m_Share_eq)))
    (l_m_Share_eq : K.lookup f_m_Share_eq = some ⟨oc_m_Share_eq, od_m_Share_eq, .func (PySem.W.fnOf "__eq__" "Share.__eq__" (defArgs s_m_Share_eq) (defBody s_m_Share_eq) (defScope s_m_Share_eq) .none kV_m_Share_eq dc_m_Share_eq pm_m_Share_eq an_m_Share_eq cd_m_Share_eq ct_m_Share_eq), sl_m_Share_eq⟩)
    (c_m_Share_eq_ : PySem.W.codeIn K cd_m_Share_eq "Share.__eq__" = true)
    (k_m_Share_eq_ : PySem.W.keepIn K (.ref f_m_Share_eq) = true)
    (a_m_Share_str : PySem.W.findIn K (.ref c_Share) "__str__" = some (some (.ref f_m_Share_str)))
    (l_m_Share_str : K.lookup f_m_Share_str = some ⟨oc_m_Share_str, od_m_Share_str, .func (PySem.W.fnOf "__str__" "Share.__str__" (defArgs s_m_Share_str) (defBody s_m_Share_str) (defScope s_m_Share_str) .none kV_m_Share_str dc_m_Share_str pm_m_Share_str an_m_Share_str cd_m_Share_str ct_m_Share_str), sl_m_Share_str⟩)
    (c_m_Share_str_ : PySem.W.codeIn K cd_m_Share_str "Share.__str__" = true)
    (k_m_Share_str_ : PySem.W.keepIn K (.ref f_m_Share_str) = true)
    (a_p_common_part : PySem.W.nsIn K mainGlobals "common_part" = some (some (.ref f_p_common_part)))
    (l_p_common_part : K.lookup f_p_common_part = some ⟨oc_p_common_part, od_p_common_part, .func (PySem.W.fnOf "common_part" "common_part" (defArgs s_p_common_part) (defBody s_p_common_part) (defScope s_p_common_part) .none kV_p_common_part dc_p_common_part pm_p_common_part an_p_common_part cd_p_common_part ct_p_common_part), sl_p_common_part⟩)
    (c_p_common_part_ : PySem.W.codeIn K cd_p_common_part "common_part" = true)
    (k_p_common_part_ : PySem.W.keepIn K (.ref f_p_common_part) = true)
    (a_p_common_multiple : PySem.W.nsIn K mainGlobals "common_multiple" = some (some (.ref f_p_common_multiple)))
    (l_p_common_multiple : K.lookup f_p_common_multiple = some ⟨oc_p_common_multiple, od_p_common_multiple, .func (PySem.W.fnOf "common_multiple" "common_multiple" (defArgs s_p_common_multiple) (defBody s_p_common_multiple) (defScope s_p_common_multiple) .none kV_p_common_multiple dc_p_common_multiple pm_p_common_multiple an_p_common_multiple cd_p_common_multiple ct_p_common_multiple), sl_p_common_multiple⟩)
    (c_p_common_multiple_ : PySem.W.codeIn K cd_p_common_multiple "common_multiple" = true)
    (k_p_common_multiple_ : PySem.W.keepIn K (.ref f_p_common_multiple) = true)
    (a_p_lowest_share : PySem.W.nsIn K mainGlobals "lowest_share" = some (some (.ref f_p_lowest_share)))
    (l_p_lowest_share : K.lookup f_p_lowest_share = some ⟨oc_p_lowest_share, od_p_lowest_share, .func (PySem.W.fnOf "lowest_share" "lowest_share" (defArgs s_p_lowest_share) (defBody s_p_lowest_share) (defScope s_p_lowest_share) .none kV_p_lowest_share dc_p_lowest_share pm_p_lowest_share an_p_lowest_share cd_p_lowest_share ct_p_lowest_share), sl_p_lowest_share⟩)
    (c_p_lowest_share_ : PySem.W.codeIn K cd_p_lowest_share "lowest_share" = true)
    (k_p_lowest_share_ : PySem.W.keepIn K (.ref f_p_lowest_share) = true)
    (a_p_grain_of : PySem.W.nsIn K mainGlobals "grain_of" = some (some (.ref f_p_grain_of)))
    (l_p_grain_of : K.lookup f_p_grain_of = some ⟨oc_p_grain_of, od_p_grain_of, .func (PySem.W.fnOf "grain_of" "grain_of" (defArgs s_p_grain_of) (defBody s_p_grain_of) (defScope s_p_grain_of) .none kV_p_grain_of dc_p_grain_of pm_p_grain_of an_p_grain_of cd_p_grain_of ct_p_grain_of), sl_p_grain_of⟩)
    (c_p_grain_of_ : PySem.W.codeIn K cd_p_grain_of "grain_of" = true)
    (k_p_grain_of_ : PySem.W.keepIn K (.ref f_p_grain_of) = true)
    (a_p_even_level : PySem.W.nsIn K mainGlobals "even_level" = some (some (.ref f_p_even_level)))
    (l_p_even_level : K.lookup f_p_even_level = some ⟨oc_p_even_level, od_p_even_level, .func (PySem.W.fnOf "even_level" "even_level" (defArgs s_p_even_level) (defBody s_p_even_level) (defScope s_p_even_level) .none kV_p_even_level dc_p_even_level pm_p_even_level an_p_even_level cd_p_even_level ct_p_even_level), sl_p_even_level⟩)
    (c_p_even_level_ : PySem.W.codeIn K cd_p_even_level "even_level" = true)
    (k_p_even_level_ : PySem.W.keepIn K (.ref f_p_even_level) = true)
    (a_p_stepped : PySem.W.nsIn K mainGlobals "stepped" = some (some (.ref f_p_stepped)))
    (l_p_stepped : K.lookup f_p_stepped = some ⟨oc_p_stepped, od_p_stepped, .func (PySem.W.fnOf "stepped" "stepped" (defArgs s_p_stepped) (defBody s_p_stepped) (defScope s_p_stepped) .none kV_p_stepped dc_p_stepped pm_p_stepped an_p_stepped cd_p_stepped ct_p_stepped), sl_p_stepped⟩)
    (c_p_stepped_ : PySem.W.codeIn K cd_p_stepped "stepped" = true)
    (k_p_stepped_ : PySem.W.keepIn K (.ref f_p_stepped) = true)
    (a_p_awaited : PySem.W.nsIn K mainGlobals "awaited" = some (some (.ref f_p_awaited)))
    (l_p_awaited : K.lookup f_p_awaited = some ⟨oc_p_awaited, od_p_awaited, .func (PySem.W.fnOf "awaited" "awaited" (defArgs s_p_awaited) (defBody s_p_awaited) (defScope s_p_awaited) .none kV_p_awaited dc_p_awaited pm_p_awaited an_p_awaited cd_p_awaited ct_p_awaited), sl_p_awaited⟩)
    (c_p_awaited_ : PySem.W.codeIn K cd_p_awaited "awaited" = true)
    (k_p_awaited_ : PySem.W.keepIn K (.ref f_p_awaited) = true)
    (a_p_lowered : PySem.W.nsIn K mainGlobals "lowered" = some (some (.ref f_p_lowered)))
    (l_p_lowered : K.lookup f_p_lowered = some ⟨oc_p_lowered, od_p_lowered, .func (PySem.W.fnOf "lowered" "lowered" (defArgs s_p_lowered) (defBody s_p_lowered) (defScope s_p_lowered) .none kV_p_lowered dc_p_lowered pm_p_lowered an_p_lowered cd_p_lowered ct_p_lowered), sl_p_lowered⟩)
    (c_p_lowered_ : PySem.W.codeIn K cd_p_lowered "lowered" = true)
    (k_p_lowered_ : PySem.W.keepIn K (.ref f_p_lowered) = true)
    (a_p_shared_part : PySem.W.nsIn K mainGlobals "shared_part" = some (some (.ref f_p_shared_part)))
    (l_p_shared_part : K.lookup f_p_shared_part = some ⟨oc_p_shared_part, od_p_shared_part, .func (PySem.W.fnOf "shared_part" "shared_part" (defArgs s_p_shared_part) (defBody s_p_shared_part) (defScope s_p_shared_part) .none kV_p_shared_part dc_p_shared_part pm_p_shared_part an_p_shared_part cd_p_shared_part ct_p_shared_part), sl_p_shared_part⟩)
    (c_p_shared_part_ : PySem.W.codeIn K cd_p_shared_part "shared_part" = true)
    (k_p_shared_part_ : PySem.W.keepIn K (.ref f_p_shared_part) = true)
    (a_p_same_bottoms : PySem.W.nsIn K mainGlobals "same_bottoms" = some (some (.ref f_p_same_bottoms)))
    (l_p_same_bottoms : K.lookup f_p_same_bottoms = some ⟨oc_p_same_bottoms, od_p_same_bottoms, .func (PySem.W.fnOf "same_bottoms" "same_bottoms" (defArgs s_p_same_bottoms) (defBody s_p_same_bottoms) (defScope s_p_same_bottoms) .none kV_p_same_bottoms dc_p_same_bottoms pm_p_same_bottoms an_p_same_bottoms cd_p_same_bottoms ct_p_same_bottoms), sl_p_same_bottoms⟩)
    (c_p_same_bottoms_ : PySem.W.codeIn K cd_p_same_bottoms "same_bottoms" = true)
    (k_p_same_bottoms_ : PySem.W.keepIn K (.ref f_p_same_bottoms) = true)
    (a_p_shares_at : PySem.W.nsIn K mainGlobals "shares_at" = some (some (.ref f_p_shares_at)))
    (l_p_shares_at : K.lookup f_p_shares_at = some ⟨oc_p_shares_at, od_p_shares_at, .func (PySem.W.fnOf "shares_at" "shares_at" (defArgs s_p_shares_at) (defBody s_p_shares_at) (defScope s_p_shares_at) .none kV_p_shares_at dc_p_shares_at pm_p_shares_at an_p_shares_at cd_p_shares_at ct_p_shares_at), sl_p_shares_at⟩)
    (c_p_shares_at_ : PySem.W.codeIn K cd_p_shares_at "shares_at" = true)
    (k_p_shares_at_ : PySem.W.keepIn K (.ref f_p_shares_at) = true)
    (a_p_share_by : PySem.W.nsIn K mainGlobals "share_by" = some (some (.ref f_p_share_by)))
    (l_p_share_by : K.lookup f_p_share_by = some ⟨oc_p_share_by, od_p_share_by, .func (PySem.W.fnOf "share_by" "share_by" (defArgs s_p_share_by) (defBody s_p_share_by) (defScope s_p_share_by) .none kV_p_share_by dc_p_share_by pm_p_share_by an_p_share_by cd_p_share_by ct_p_share_by), sl_p_share_by⟩)
    (c_p_share_by_ : PySem.W.codeIn K cd_p_share_by "share_by" = true)
    (k_p_share_by_ : PySem.W.keepIn K (.ref f_p_share_by) = true)
    (a_p_is_such : PySem.W.nsIn K mainGlobals "is_such" = some (some (.ref f_p_is_such)))
    (l_p_is_such : K.lookup f_p_is_such = some ⟨oc_p_is_such, od_p_is_such, .func (PySem.W.fnOf "is_such" "is_such" (defArgs s_p_is_such) (defBody s_p_is_such) (defScope s_p_is_such) .none kV_p_is_such dc_p_is_such pm_p_is_such an_p_is_such cd_p_is_such ct_p_is_such), sl_p_is_such⟩)
    (c_p_is_such_ : PySem.W.codeIn K cd_p_is_such "is_such" = true)
    (k_p_is_such_ : PySem.W.keepIn K (.ref f_p_is_such) = true)
    (a_p_is_row : PySem.W.nsIn K mainGlobals "is_row" = some (some (.ref f_p_is_row)))
    (l_p_is_row : K.lookup f_p_is_row = some ⟨oc_p_is_row, od_p_is_row, .func (PySem.W.fnOf "is_row" "is_row" (defArgs s_p_is_row) (defBody s_p_is_row) (defScope s_p_is_row) .none kV_p_is_row dc_p_is_row pm_p_is_row an_p_is_row cd_p_is_row ct_p_is_row), sl_p_is_row⟩)
    (c_p_is_row_ : PySem.W.codeIn K cd_p_is_row "is_row" = true)
    (k_p_is_row_ : PySem.W.keepIn K (.ref f_p_is_row) = true)
    (a_p_check_book : PySem.W.nsIn K mainGlobals "check_book" = some (some (.ref f_p_check_book)))
    (l_p_check_book : K.lookup f_p_check_book = some ⟨oc_p_check_book, od_p_check_book, .func (PySem.W.fnOf "check_book" "check_book" (defArgs s_p_check_book) (defBody s_p_check_book) (defScope s_p_check_book) .none kV_p_check_book dc_p_check_book pm_p_check_book an_p_check_book cd_p_check_book ct_p_check_book), sl_p_check_book⟩)
    (c_p_check_book_ : PySem.W.codeIn K cd_p_check_book "check_book" = true)
    (k_p_check_book_ : PySem.W.keepIn K (.ref f_p_check_book) = true)
    (a_p_book_grain : PySem.W.nsIn K mainGlobals "book_grain" = some (some (.ref f_p_book_grain)))
    (l_p_book_grain : K.lookup f_p_book_grain = some ⟨oc_p_book_grain, od_p_book_grain, .func (PySem.W.fnOf "book_grain" "book_grain" (defArgs s_p_book_grain) (defBody s_p_book_grain) (defScope s_p_book_grain) .none kV_p_book_grain dc_p_book_grain pm_p_book_grain an_p_book_grain cd_p_book_grain ct_p_book_grain), sl_p_book_grain⟩)
    (c_p_book_grain_ : PySem.W.codeIn K cd_p_book_grain "book_grain" = true)
    (k_p_book_grain_ : PySem.W.keepIn K (.ref f_p_book_grain) = true)
    (a_p_level_of : PySem.W.nsIn K mainGlobals "level_of" = some (some (.ref f_p_level_of)))
    (l_p_level_of : K.lookup f_p_level_of = some ⟨oc_p_level_of, od_p_level_of, .func (PySem.W.fnOf "level_of" "level_of" (defArgs s_p_level_of) (defBody s_p_level_of) (defScope s_p_level_of) .none kV_p_level_of dc_p_level_of pm_p_level_of an_p_level_of cd_p_level_of ct_p_level_of), sl_p_level_of⟩)
    (c_p_level_of_ : PySem.W.codeIn K cd_p_level_of "level_of" = true)
    (k_p_level_of_ : PySem.W.keepIn K (.ref f_p_level_of) = true)
    (a_p_faded : PySem.W.nsIn K mainGlobals "faded" = some (some (.ref f_p_faded)))
    (l_p_faded : K.lookup f_p_faded = some ⟨oc_p_faded, od_p_faded, .func (PySem.W.fnOf "faded" "faded" (defArgs s_p_faded) (defBody s_p_faded) (defScope s_p_faded) .none kV_p_faded dc_p_faded pm_p_faded an_p_faded cd_p_faded ct_p_faded), sl_p_faded⟩)
    (c_p_faded_ : PySem.W.codeIn K cd_p_faded "faded" = true)
    (k_p_faded_ : PySem.W.keepIn K (.ref f_p_faded) = true)
    (a_p_inverse : PySem.W.nsIn K mainGlobals "inverse" = some (some (.ref f_p_inverse)))
    (l_p_inverse : K.lookup f_p_inverse = some ⟨oc_p_inverse, od_p_inverse, .func (PySem.W.fnOf "inverse" "inverse" (defArgs s_p_inverse) (defBody s_p_inverse) (defScope s_p_inverse) .none kV_p_inverse dc_p_inverse pm_p_inverse an_p_inverse cd_p_inverse ct_p_inverse), sl_p_inverse⟩)
    (c_p_inverse_ : PySem.W.codeIn K cd_p_inverse "inverse" = true)
    (k_p_inverse_ : PySem.W.keepIn K (.ref f_p_inverse) = true)
    (a_p_lessened : PySem.W.nsIn K mainGlobals "lessened" = some (some (.ref f_p_lessened)))
    (l_p_lessened : K.lookup f_p_lessened = some ⟨oc_p_lessened, od_p_lessened, .func (PySem.W.fnOf "lessened" "lessened" (defArgs s_p_lessened) (defBody s_p_lessened) (defScope s_p_lessened) .none kV_p_lessened dc_p_lessened pm_p_lessened an_p_lessened cd_p_lessened ct_p_lessened), sl_p_lessened⟩)
    (c_p_lessened_ : PySem.W.codeIn K cd_p_lessened "lessened" = true)
    (k_p_lessened_ : PySem.W.keepIn K (.ref f_p_lessened) = true)
    (a_p_check_fade : PySem.W.nsIn K mainGlobals "check_fade" = some (some (.ref f_p_check_fade)))
    (l_p_check_fade : K.lookup f_p_check_fade = some ⟨oc_p_check_fade, od_p_check_fade, .func (PySem.W.fnOf "check_fade" "check_fade" (defArgs s_p_check_fade) (defBody s_p_check_fade) (defScope s_p_check_fade) .none kV_p_check_fade dc_p_check_fade pm_p_check_fade an_p_check_fade cd_p_check_fade ct_p_check_fade), sl_p_check_fade⟩)
    (c_p_check_fade_ : PySem.W.codeIn K cd_p_check_fade "check_fade" = true)
    (k_p_check_fade_ : PySem.W.keepIn K (.ref f_p_check_fade) = true)
    (a_m_Machine_init : PySem.W.findIn K (.ref c_Machine) "__init__" = some (some (.ref f_m_Machine_init)))
    (l_m_Machine_init : K.lookup f_m_Machine_init = some ⟨oc_m_Machine_init, od_m_Machine_init, .func (PySem.W.fnOf "__init__" "Machine.__init__" (defArgs s_m_Machine_init) (defBody s_m_Machine_init) (defScope s_m_Machine_init) .none kV_m_Machine_init dc_m_Machine_init pm_m_Machine_init an_m_Machine_init cd_m_Machine_init ct_m_Machine_init), sl_m_Machine_init⟩)
    (c_m_Machine_init_ : PySem.W.codeIn K cd_m_Machine_init "Machine.__init__" = true)
    (k_m_Machine_init_ : PySem.W.keepIn K (.ref f_m_Machine_init) = true)
    (a_m_Machine_eq : PySem.W.findIn K (.ref c_Machine) "__eq__" = some (some (.ref f_m_Machine_eq)))
    (l_m_Machine_eq : K.lookup f_m_Machine_eq = some ⟨oc_m_Machine_eq, od_m_Machine_eq, .func (PySem.W.fnOf "__eq__" "Machine.__eq__" (defArgs s_m_Machine_eq) (defBody s_m_Machine_eq) (defScope s_m_Machine_eq) .none kV_m_Machine_eq dc_m_Machine_eq pm_m_Machine_eq an_m_Machine_eq cd_m_Machine_eq ct_m_Machine_eq), sl_m_Machine_eq⟩)
    (c_m_Machine_eq_ : PySem.W.codeIn K cd_m_Machine_eq "Machine.__eq__" = true)
    (k_m_Machine_eq_ : PySem.W.keepIn K (.ref f_m_Machine_eq) = true)
    (a_m_Machine_len : PySem.W.findIn K (.ref c_Machine) "__len__" = some (some (.ref f_m_Machine_len)))
    (l_m_Machine_len : K.lookup f_m_Machine_len = some ⟨oc_m_Machine_len, od_m_Machine_len, .func (PySem.W.fnOf "__len__" "Machine.__len__" (defArgs s_m_Machine_len) (defBody s_m_Machine_len) (defScope s_m_Machine_len) .none kV_m_Machine_len dc_m_Machine_len pm_m_Machine_len an_m_Machine_len cd_m_Machine_len ct_m_Machine_len), sl_m_Machine_len⟩)
    (c_m_Machine_len_ : PySem.W.codeIn K cd_m_Machine_len "Machine.__len__" = true)
    (k_m_Machine_len_ : PySem.W.keepIn K (.ref f_m_Machine_len) = true)
    (a_p_is_room : PySem.W.nsIn K mainGlobals "is_room" = some (some (.ref f_p_is_room)))
    (l_p_is_room : K.lookup f_p_is_room = some ⟨oc_p_is_room, od_p_is_room, .func (PySem.W.fnOf "is_room" "is_room" (defArgs s_p_is_room) (defBody s_p_is_room) (defScope s_p_is_room) .none kV_p_is_room dc_p_is_room pm_p_is_room an_p_is_room cd_p_is_room ct_p_is_room), sl_p_is_room⟩)
    (c_p_is_room_ : PySem.W.codeIn K cd_p_is_room "is_room" = true)
    (k_p_is_room_ : PySem.W.keepIn K (.ref f_p_is_room) = true)
    (a_p_are_weights : PySem.W.nsIn K mainGlobals "are_weights" = some (some (.ref f_p_are_weights)))
    (l_p_are_weights : K.lookup f_p_are_weights = some ⟨oc_p_are_weights, od_p_are_weights, .func (PySem.W.fnOf "are_weights" "are_weights" (defArgs s_p_are_weights) (defBody s_p_are_weights) (defScope s_p_are_weights) .none kV_p_are_weights dc_p_are_weights pm_p_are_weights an_p_are_weights cd_p_are_weights ct_p_are_weights), sl_p_are_weights⟩)
    (c_p_are_weights_ : PySem.W.codeIn K cd_p_are_weights "are_weights" = true)
    (k_p_are_weights_ : PySem.W.keepIn K (.ref f_p_are_weights) = true)
    (a_p_is_step : PySem.W.nsIn K mainGlobals "is_step" = some (some (.ref f_p_is_step)))
    (l_p_is_step : K.lookup f_p_is_step = some ⟨oc_p_is_step, od_p_is_step, .func (PySem.W.fnOf "is_step" "is_step" (defArgs s_p_is_step) (defBody s_p_is_step) (defScope s_p_is_step) .none kV_p_is_step dc_p_is_step pm_p_is_step an_p_is_step cd_p_is_step ct_p_is_step), sl_p_is_step⟩)
    (c_p_is_step_ : PySem.W.codeIn K cd_p_is_step "is_step" = true)
    (k_p_is_step_ : PySem.W.keepIn K (.ref f_p_is_step) = true)
    (a_p_are_steps : PySem.W.nsIn K mainGlobals "are_steps" = some (some (.ref f_p_are_steps)))
    (l_p_are_steps : K.lookup f_p_are_steps = some ⟨oc_p_are_steps, od_p_are_steps, .func (PySem.W.fnOf "are_steps" "are_steps" (defArgs s_p_are_steps) (defBody s_p_are_steps) (defScope s_p_are_steps) .none kV_p_are_steps dc_p_are_steps pm_p_are_steps an_p_are_steps cd_p_are_steps ct_p_are_steps), sl_p_are_steps⟩)
    (c_p_are_steps_ : PySem.W.codeIn K cd_p_are_steps "are_steps" = true)
    (k_p_are_steps_ : PySem.W.keepIn K (.ref f_p_are_steps) = true)
    (a_p_lowest : PySem.W.nsIn K mainGlobals "lowest" = some (some (.ref f_p_lowest)))
    (l_p_lowest : K.lookup f_p_lowest = some ⟨oc_p_lowest, od_p_lowest, .func (PySem.W.fnOf "lowest" "lowest" (defArgs s_p_lowest) (defBody s_p_lowest) (defScope s_p_lowest) .none kV_p_lowest dc_p_lowest pm_p_lowest an_p_lowest cd_p_lowest ct_p_lowest), sl_p_lowest⟩)
    (c_p_lowest_ : PySem.W.codeIn K cd_p_lowest "lowest" = true)
    (k_p_lowest_ : PySem.W.keepIn K (.ref f_p_lowest) = true)
    (a_p_doors_of : PySem.W.nsIn K mainGlobals "doors_of" = some (some (.ref f_p_doors_of)))
    (l_p_doors_of : K.lookup f_p_doors_of = some ⟨oc_p_doors_of, od_p_doors_of, .func (PySem.W.fnOf "doors_of" "doors_of" (defArgs s_p_doors_of) (defBody s_p_doors_of) (defScope s_p_doors_of) .none kV_p_doors_of dc_p_doors_of pm_p_doors_of an_p_doors_of cd_p_doors_of ct_p_doors_of), sl_p_doors_of⟩)
    (c_p_doors_of_ : PySem.W.codeIn K cd_p_doors_of "doors_of" = true)
    (k_p_doors_of_ : PySem.W.keepIn K (.ref f_p_doors_of) = true)
    (a_p_worths : PySem.W.nsIn K mainGlobals "worths" = some (some (.ref f_p_worths)))
    (l_p_worths : K.lookup f_p_worths = some ⟨oc_p_worths, od_p_worths, .func (PySem.W.fnOf "worths" "worths" (defArgs s_p_worths) (defBody s_p_worths) (defScope s_p_worths) .none kV_p_worths dc_p_worths pm_p_worths an_p_worths cd_p_worths ct_p_worths), sl_p_worths⟩)
    (c_p_worths_ : PySem.W.codeIn K cd_p_worths "worths" = true)
    (k_p_worths_ : PySem.W.keepIn K (.ref f_p_worths) = true)
    (a_p_worth : PySem.W.nsIn K mainGlobals "worth" = some (some (.ref f_p_worth)))
    (l_p_worth : K.lookup f_p_worth = some ⟨oc_p_worth, od_p_worth, .func (PySem.W.fnOf "worth" "worth" (defArgs s_p_worth) (defBody s_p_worth) (defScope s_p_worth) .none kV_p_worth dc_p_worth pm_p_worth an_p_worth cd_p_worth ct_p_worth), sl_p_worth⟩)
    (c_p_worth_ : PySem.W.codeIn K cd_p_worth "worth" = true)
    (k_p_worth_ : PySem.W.keepIn K (.ref f_p_worth) = true)
    (a_l_well : PySem.W.nsIn K mainGlobals "_law_well" = some (some (.ref f_l_well)))
    (l_l_well : K.lookup f_l_well = some ⟨oc_l_well, od_l_well, .func (PySem.W.fnOf "_law_well" "_law_well" (defArgs s_l_well) (defBody s_l_well) (defScope s_l_well) .none kV_l_well dc_l_well pm_l_well an_l_well cd_l_well ct_l_well), sl_l_well⟩)
    (c_l_well_ : PySem.W.codeIn K cd_l_well "_law_well" = true)
    (k_l_well_ : PySem.W.keepIn K (.ref f_l_well) = true)
    (a_l_draw : PySem.W.nsIn K mainGlobals "_law_draw" = some (some (.ref f_l_draw)))
    (l_l_draw : K.lookup f_l_draw = some ⟨oc_l_draw, od_l_draw, .func (PySem.W.fnOf "_law_draw" "_law_draw" (defArgs s_l_draw) (defBody s_l_draw) (defScope s_l_draw) .none kV_l_draw dc_l_draw pm_l_draw an_l_draw cd_l_draw ct_l_draw), sl_l_draw⟩)
    (c_l_draw_ : PySem.W.codeIn K cd_l_draw "_law_draw" = true)
    (k_l_draw_ : PySem.W.keepIn K (.ref f_l_draw) = true)
    (a_l_one : PySem.W.nsIn K mainGlobals "_law_one" = some (some (.ref f_l_one)))
    (l_l_one : K.lookup f_l_one = some ⟨oc_l_one, od_l_one, .func (PySem.W.fnOf "_law_one" "_law_one" (defArgs s_l_one) (defBody s_l_one) (defScope s_l_one) .none kV_l_one dc_l_one pm_l_one an_l_one cd_l_one ct_l_one), sl_l_one⟩)
    (c_l_one_ : PySem.W.codeIn K cd_l_one "_law_one" = true)
    (k_l_one_ : PySem.W.keepIn K (.ref f_l_one) = true)
    (a_l_names : PySem.W.nsIn K mainGlobals "_law_names" = some (some (.ref f_l_names)))
    (l_l_names : K.lookup f_l_names = some ⟨oc_l_names, od_l_names, .func (PySem.W.fnOf "_law_names" "_law_names" (defArgs s_l_names) (defBody s_l_names) (defScope s_l_names) .none kV_l_names dc_l_names pm_l_names an_l_names cd_l_names ct_l_names), sl_l_names⟩)
    (c_l_names_ : PySem.W.codeIn K cd_l_names "_law_names" = true)
    (k_l_names_ : PySem.W.keepIn K (.ref f_l_names) = true)
    (a_l_weights : PySem.W.nsIn K mainGlobals "_law_weights" = some (some (.ref f_l_weights)))
    (l_l_weights : K.lookup f_l_weights = some ⟨oc_l_weights, od_l_weights, .func (PySem.W.fnOf "_law_weights" "_law_weights" (defArgs s_l_weights) (defBody s_l_weights) (defScope s_l_weights) .none kV_l_weights dc_l_weights pm_l_weights an_l_weights cd_l_weights ct_l_weights), sl_l_weights⟩)
    (c_l_weights_ : PySem.W.codeIn K cd_l_weights "_law_weights" = true)
    (k_l_weights_ : PySem.W.keepIn K (.ref f_l_weights) = true)
    (a_l_machine : PySem.W.nsIn K mainGlobals "_law_machine" = some (some (.ref f_l_machine)))
    (l_l_machine : K.lookup f_l_machine = some ⟨oc_l_machine, od_l_machine, .func (PySem.W.fnOf "_law_machine" "_law_machine" (defArgs s_l_machine) (defBody s_l_machine) (defScope s_l_machine) .none kV_l_machine dc_l_machine pm_l_machine an_l_machine cd_l_machine ct_l_machine), sl_l_machine⟩)
    (c_l_machine_ : PySem.W.codeIn K cd_l_machine "_law_machine" = true)
    (k_l_machine_ : PySem.W.keepIn K (.ref f_l_machine) = true)
    (a_l_fade : PySem.W.nsIn K mainGlobals "_law_fade" = some (some (.ref f_l_fade)))
    (l_l_fade : K.lookup f_l_fade = some ⟨oc_l_fade, od_l_fade, .func (PySem.W.fnOf "_law_fade" "_law_fade" (defArgs s_l_fade) (defBody s_l_fade) (defScope s_l_fade) .none kV_l_fade dc_l_fade pm_l_fade an_l_fade cd_l_fade ct_l_fade), sl_l_fade⟩)
    (c_l_fade_ : PySem.W.codeIn K cd_l_fade "_law_fade" = true)
    (k_l_fade_ : PySem.W.keepIn K (.ref f_l_fade) = true)
    (a_l_low : PySem.W.nsIn K mainGlobals "_law_low" = some (some (.ref f_l_low)))
    (l_l_low : K.lookup f_l_low = some ⟨oc_l_low, od_l_low, .func (PySem.W.fnOf "_law_low" "_law_low" (defArgs s_l_low) (defBody s_l_low) (defScope s_l_low) .none kV_l_low dc_l_low pm_l_low an_l_low cd_l_low ct_l_low), sl_l_low⟩)
    (c_l_low_ : PySem.W.codeIn K cd_l_low "_law_low" = true)
    (k_l_low_ : PySem.W.keepIn K (.ref f_l_low) = true)
    (a_l_less : PySem.W.nsIn K mainGlobals "_law_less" = some (some (.ref f_l_less)))
    (l_l_less : K.lookup f_l_less = some ⟨oc_l_less, od_l_less, .func (PySem.W.fnOf "_law_less" "_law_less" (defArgs s_l_less) (defBody s_l_less) (defScope s_l_less) .none kV_l_less dc_l_less pm_l_less an_l_less cd_l_less ct_l_less), sl_l_less⟩)
    (c_l_less_ : PySem.W.codeIn K cd_l_less "_law_less" = true)
    (k_l_less_ : PySem.W.keepIn K (.ref f_l_less) = true)
    (a_l_minus : PySem.W.nsIn K mainGlobals "_law_minus" = some (some (.ref f_l_minus)))
    (l_l_minus : K.lookup f_l_minus = some ⟨oc_l_minus, od_l_minus, .func (PySem.W.fnOf "_law_minus" "_law_minus" (defArgs s_l_minus) (defBody s_l_minus) (defScope s_l_minus) .none kV_l_minus dc_l_minus pm_l_minus an_l_minus cd_l_minus ct_l_minus), sl_l_minus⟩)
    (c_l_minus_ : PySem.W.codeIn K cd_l_minus "_law_minus" = true)
    (k_l_minus_ : PySem.W.keepIn K (.ref f_l_minus) = true)
    (a_l_share : PySem.W.nsIn K mainGlobals "_law_share" = some (some (.ref f_l_share)))
    (l_l_share : K.lookup f_l_share = some ⟨oc_l_share, od_l_share, .func (PySem.W.fnOf "_law_share" "_law_share" (defArgs s_l_share) (defBody s_l_share) (defScope s_l_share) .none kV_l_share dc_l_share pm_l_share an_l_share cd_l_share ct_l_share), sl_l_share⟩)
    (c_l_share_ : PySem.W.codeIn K cd_l_share "_law_share" = true)
    (k_l_share_ : PySem.W.keepIn K (.ref f_l_share) = true)
    (a_l_row : PySem.W.nsIn K mainGlobals "_law_row" = some (some (.ref f_l_row)))
    (l_l_row : K.lookup f_l_row = some ⟨oc_l_row, od_l_row, .func (PySem.W.fnOf "_law_row" "_law_row" (defArgs s_l_row) (defBody s_l_row) (defScope s_l_row) .none kV_l_row dc_l_row pm_l_row an_l_row cd_l_row ct_l_row), sl_l_row⟩)
    (c_l_row_ : PySem.W.codeIn K cd_l_row "_law_row" = true)
    (k_l_row_ : PySem.W.keepIn K (.ref f_l_row) = true)
    (a_l_rows : PySem.W.nsIn K mainGlobals "_law_rows" = some (some (.ref f_l_rows)))
    (l_l_rows : K.lookup f_l_rows = some ⟨oc_l_rows, od_l_rows, .func (PySem.W.fnOf "_law_rows" "_law_rows" (defArgs s_l_rows) (defBody s_l_rows) (defScope s_l_rows) .none kV_l_rows dc_l_rows pm_l_rows an_l_rows cd_l_rows ct_l_rows), sl_l_rows⟩)
    (c_l_rows_ : PySem.W.codeIn K cd_l_rows "_law_rows" = true)
    (k_l_rows_ : PySem.W.keepIn K (.ref f_l_rows) = true)
    (a_l_book : PySem.W.nsIn K mainGlobals "_law_book" = some (some (.ref f_l_book)))
    (l_l_book : K.lookup f_l_book = some ⟨oc_l_book, od_l_book, .func (PySem.W.fnOf "_law_book" "_law_book" (defArgs s_l_book) (defBody s_l_book) (defScope s_l_book) .none kV_l_book dc_l_book pm_l_book an_l_book cd_l_book ct_l_book), sl_l_book⟩)
    (c_l_book_ : PySem.W.codeIn K cd_l_book "_law_book" = true)
    (k_l_book_ : PySem.W.keepIn K (.ref f_l_book) = true)
    (a_l_onward : PySem.W.nsIn K mainGlobals "_law_onward" = some (some (.ref f_l_onward)))
    (l_l_onward : K.lookup f_l_onward = some ⟨oc_l_onward, od_l_onward, .func (PySem.W.fnOf "_law_onward" "_law_onward" (defArgs s_l_onward) (defBody s_l_onward) (defScope s_l_onward) .none kV_l_onward dc_l_onward pm_l_onward an_l_onward cd_l_onward ct_l_onward), sl_l_onward⟩)
    (c_l_onward_ : PySem.W.codeIn K cd_l_onward "_law_onward" = true)
    (k_l_onward_ : PySem.W.keepIn K (.ref f_l_onward) = true)
    (a_l_on : PySem.W.nsIn K mainGlobals "_law_on" = some (some (.ref f_l_on)))
    (l_l_on : K.lookup f_l_on = some ⟨oc_l_on, od_l_on, .func (PySem.W.fnOf "_law_on" "_law_on" (defArgs s_l_on) (defBody s_l_on) (defScope s_l_on) .none kV_l_on dc_l_on pm_l_on an_l_on cd_l_on ct_l_on), sl_l_on⟩)
    (c_l_on_ : PySem.W.codeIn K cd_l_on "_law_on" = true)
    (k_l_on_ : PySem.W.keepIn K (.ref f_l_on) = true)
    (a_l_worths_of : PySem.W.nsIn K mainGlobals "_law_worths_of" = some (some (.ref f_l_worths_of)))
    (l_l_worths_of : K.lookup f_l_worths_of = some ⟨oc_l_worths_of, od_l_worths_of, .func (PySem.W.fnOf "_law_worths_of" "_law_worths_of" (defArgs s_l_worths_of) (defBody s_l_worths_of) (defScope s_l_worths_of) .none kV_l_worths_of dc_l_worths_of pm_l_worths_of an_l_worths_of cd_l_worths_of ct_l_worths_of), sl_l_worths_of⟩)
    (c_l_worths_of_ : PySem.W.codeIn K cd_l_worths_of "_law_worths_of" = true)
    (k_l_worths_of_ : PySem.W.keepIn K (.ref f_l_worths_of) = true)
    (a_l_worths : PySem.W.nsIn K mainGlobals "_law_worths" = some (some (.ref f_l_worths)))
    (l_l_worths : K.lookup f_l_worths = some ⟨oc_l_worths, od_l_worths, .func (PySem.W.fnOf "_law_worths" "_law_worths" (defArgs s_l_worths) (defBody s_l_worths) (defScope s_l_worths) .none kV_l_worths dc_l_worths pm_l_worths an_l_worths cd_l_worths ct_l_worths), sl_l_worths⟩)
    (c_l_worths_ : PySem.W.codeIn K cd_l_worths "_law_worths" = true)
    (k_l_worths_ : PySem.W.keepIn K (.ref f_l_worths) = true)
    (a_l_doubled : PySem.W.nsIn K mainGlobals "_law_doubled" = some (some (.ref f_l_doubled)))
    (l_l_doubled : K.lookup f_l_doubled = some ⟨oc_l_doubled, od_l_doubled, .func (PySem.W.fnOf "_law_doubled" "_law_doubled" (defArgs s_l_doubled) (defBody s_l_doubled) (defScope s_l_doubled) .none kV_l_doubled dc_l_doubled pm_l_doubled an_l_doubled cd_l_doubled ct_l_doubled), sl_l_doubled⟩)
    (c_l_doubled_ : PySem.W.codeIn K cd_l_doubled "_law_doubled" = true)
    (k_l_doubled_ : PySem.W.keepIn K (.ref f_l_doubled) = true)
    (a_l_told : PySem.W.nsIn K mainGlobals "_law_told" = some (some (.ref f_l_told)))
    (l_l_told : K.lookup f_l_told = some ⟨oc_l_told, od_l_told, .func (PySem.W.fnOf "_law_told" "_law_told" (defArgs s_l_told) (defBody s_l_told) (defScope s_l_told) .none kV_l_told dc_l_told pm_l_told an_l_told cd_l_told ct_l_told), sl_l_told⟩)
    (c_l_told_ : PySem.W.codeIn K cd_l_told "_law_told" = true)
    (k_l_told_ : PySem.W.keepIn K (.ref f_l_told) = true)
    (a_l_heads : PySem.W.nsIn K mainGlobals "_law_heads" = some (some (.ref f_l_heads)))
    (l_l_heads : K.lookup f_l_heads = some ⟨oc_l_heads, od_l_heads, .func (PySem.W.fnOf "_law_heads" "_law_heads" (defArgs s_l_heads) (defBody s_l_heads) (defScope s_l_heads) .none kV_l_heads dc_l_heads pm_l_heads an_l_heads cd_l_heads ct_l_heads), sl_l_heads⟩)
    (c_l_heads_ : PySem.W.codeIn K cd_l_heads "_law_heads" = true)
    (k_l_heads_ : PySem.W.keepIn K (.ref f_l_heads) = true)
    (a_law : PySem.W.nsIn K mainGlobals "law" = some (some (.ref f_law)))
    (l_law : K.lookup f_law = some ⟨oc_law, od_law, .func (PySem.W.fnOf "law" "law" (defArgs s_law) (defBody s_law) (defScope s_law) .none kV_law dc_law pm_law an_law cd_law ct_law), sl_law⟩)
    (c_law_ : PySem.W.codeIn K cd_law "law" = true)
    (k_law_ : PySem.W.keepIn K (.ref f_law) = true)
    (pg_Share : PySem.W.plainGet K c_Share Str.empty = true)
    (hd_Share : PySem.W.hasDictIn K c_Share = true)
    (po_Share : PySem.W.plainOver K c_Share = true)
    (sa_Share : PySem.W.findIn K (.ref c_Share) "__setattr__" = some (some (.builtin "object.__setattr__")))
    (mk_Share : PySem.W.makesIn K c_Share = true)
    (kc_Share : PySem.W.keepIn K (.ref c_Share) = true)
    (if_Share : PySem.W.isFn K (.ref f_m_Share_init) = true)
    (ha_Share : PySem.W.findIn K (.ref c_Share) "__class__" = some (some (.builtin "object.__class__")))
    (hn_Share : PySem.W.specialIn K (.builtin "object.__class__") "__get__" = some (some (.builtin "getset_descriptor.__get__")))
    (ht_Share : PySem.W.takesIn K (.builtin "object.__class__") = some true)
    (hm_Share : PySem.W.mroIn K c_Share (.type "object") = some true)
    (n_Share_top : PySem.W.findIn K (.ref c_Share) "top" = some none)
    (n_Share_bottom : PySem.W.findIn K (.ref c_Share) "bottom" = some none)
    (i_m_Share_eq : PySem.W.isFn K (.ref f_m_Share_eq) = true)
    (i_m_Share_str : PySem.W.isFn K (.ref f_m_Share_str) = true)
    (nn_Share : PySem.W.findIn K (.ref c_Share) "__ne__" = some (some (.builtin "object.__ne__")))
    (nf_Share_int : PySem.W.notFirst K c_Share (.type "int") = true)
    (nf_Share_str : PySem.W.notFirst K c_Share (.type "str") = true)
    (nf_Share_NoneType : PySem.W.notFirst K c_Share (.type "NoneType") = true)
    (nf_Share_list : PySem.W.notFirst K c_Share (.type "list") = true)
    (nf_Share_tuple : PySem.W.notFirst K c_Share (.type "tuple") = true)
    (nf_Share_dict : PySem.W.notFirst K c_Share (.type "dict") = true)
    (nf_Share_bool : PySem.W.notFirst K c_Share (.type "bool") = true)
    (ko_Share : PySem.W.kitOne K (.ref c_Share) (.ref c_Share) = some true)
    (ko_Share_int : PySem.W.kitOne K (.type "int") (.ref c_Share) = some false)
    (ko_Share_str : PySem.W.kitOne K (.type "str") (.ref c_Share) = some false)
    (ko_Share_NoneType : PySem.W.kitOne K (.type "NoneType") (.ref c_Share) = some false)
    (ko_Share_list : PySem.W.kitOne K (.type "list") (.ref c_Share) = some false)
    (ko_Share_tuple : PySem.W.kitOne K (.type "tuple") (.ref c_Share) = some false)
    (ko_Share_dict : PySem.W.kitOne K (.type "dict") (.ref c_Share) = some false)
    (ko_Share_bool : PySem.W.kitOne K (.type "bool") (.ref c_Share) = some false)
    (pg_Machine : PySem.W.plainGet K c_Machine Str.empty = true)
    (hd_Machine : PySem.W.hasDictIn K c_Machine = true)
    (po_Machine : PySem.W.plainOver K c_Machine = true)
    (sa_Machine : PySem.W.findIn K (.ref c_Machine) "__setattr__" = some (some (.builtin "object.__setattr__")))
    (mk_Machine : PySem.W.makesIn K c_Machine = true)
    (kc_Machine : PySem.W.keepIn K (.ref c_Machine) = true)
    (if_Machine : PySem.W.isFn K (.ref f_m_Machine_init) = true)
    (ha_Machine : PySem.W.findIn K (.ref c_Machine) "__class__" = some (some (.builtin "object.__class__")))
    (hn_Machine : PySem.W.specialIn K (.builtin "object.__class__") "__get__" = some (some (.builtin "getset_descriptor.__get__")))
    (ht_Machine : PySem.W.takesIn K (.builtin "object.__class__") = some true)
    (hm_Machine : PySem.W.mroIn K c_Machine (.type "object") = some true)
    (n_Machine_many : PySem.W.findIn K (.ref c_Machine) "many" = some none)
    (n_Machine_steps : PySem.W.findIn K (.ref c_Machine) "steps" = some none)
    (i_m_Machine_eq : PySem.W.isFn K (.ref f_m_Machine_eq) = true)
    (i_m_Machine_len : PySem.W.isFn K (.ref f_m_Machine_len) = true)
    (nn_Machine : PySem.W.findIn K (.ref c_Machine) "__ne__" = some (some (.builtin "object.__ne__")))
    (nf_Machine_int : PySem.W.notFirst K c_Machine (.type "int") = true)
    (nf_Machine_str : PySem.W.notFirst K c_Machine (.type "str") = true)
    (nf_Machine_NoneType : PySem.W.notFirst K c_Machine (.type "NoneType") = true)
    (nf_Machine_list : PySem.W.notFirst K c_Machine (.type "list") = true)
    (nf_Machine_tuple : PySem.W.notFirst K c_Machine (.type "tuple") = true)
    (nf_Machine_dict : PySem.W.notFirst K c_Machine (.type "dict") = true)
    (nf_Machine_bool : PySem.W.notFirst K c_Machine (.type "bool") = true)
    (ko_Machine : PySem.W.kitOne K (.ref c_Machine) (.ref c_Machine) = some true)
    (ko_Machine_int : PySem.W.kitOne K (.type "int") (.ref c_Machine) = some false)
    (ko_Machine_str : PySem.W.kitOne K (.type "str") (.ref c_Machine) = some false)
    (ko_Machine_NoneType : PySem.W.kitOne K (.type "NoneType") (.ref c_Machine) = some false)
    (ko_Machine_list : PySem.W.kitOne K (.type "list") (.ref c_Machine) = some false)
    (ko_Machine_tuple : PySem.W.kitOne K (.type "tuple") (.ref c_Machine) = some false)
    (ko_Machine_dict : PySem.W.kitOne K (.type "dict") (.ref c_Machine) = some false)
    (ko_Machine_bool : PySem.W.kitOne K (.type "bool") (.ref c_Machine) = some false)
    (ac_LETTERS : PySem.W.nsIn K mainGlobals "LETTERS" = some (some (Value.str "abcdefghijklmnopqrstuvwxyz" tkc_LETTERS)))
    (ac_LONGEST_NAME : PySem.W.nsIn K mainGlobals "LONGEST_NAME" = some (some (Value.int 8 tkc_LONGEST_NAME)))
    (ac_PIECE_LENGTH : PySem.W.nsIn K mainGlobals "PIECE_LENGTH" = some (some (Value.int 64 tkc_PIECE_LENGTH)))
    (ac_MOST_ROOMS : PySem.W.nsIn K mainGlobals "MOST_ROOMS" = some (some (Value.int 12 tkc_MOST_ROOMS)))
    (ad_FORMS : PySem.W.nsIn K mainGlobals "FORMS" = some (some (.ref u_FORMS)))
    (al_FORMS : K.lookup u_FORMS = some ⟨.type "dict", none, .dict e_FORMS n_FORMS, #[]⟩)
    (li_FORMS : PySem.W.KeysLit w.params e_FORMS.toList)
    (lo_FORMS : (u_FORMS == sysModules) = false)
    (dk_FORMS_0 : PySem.W.nsIn K u_FORMS "one" = some (some (.ref t_FORMS_0)))
    (dl_FORMS_0 : K.lookup t_FORMS_0 = some ⟨.type "tuple", od_FORMS_0, .seq (List.toArray []) nd_FORMS_0, sd_FORMS_0⟩)
    (dk_FORMS_1 : PySem.W.nsIn K u_FORMS "can" = some (some (.ref t_FORMS_1)))
    (dl_FORMS_1 : K.lookup t_FORMS_1 = some ⟨.type "tuple", od_FORMS_1, .seq (List.toArray [Value.str "sign" td0_FORMS_1]) nd_FORMS_1, sd_FORMS_1⟩)
    (dk_FORMS_2 : PySem.W.nsIn K u_FORMS "on" = some (some (.ref t_FORMS_2)))
    (dl_FORMS_2 : K.lookup t_FORMS_2 = some ⟨.type "tuple", od_FORMS_2, .seq (List.toArray [Value.str "sign" td0_FORMS_2, Value.str "number" td1_FORMS_2]) nd_FORMS_2, sd_FORMS_2⟩)
    (dk_FORMS_3 : PySem.W.nsIn K u_FORMS "not" = some (some (.ref t_FORMS_3)))
    (dl_FORMS_3 : K.lookup t_FORMS_3 = some ⟨.type "tuple", od_FORMS_3, .seq (List.toArray [Value.str "number" td0_FORMS_3]) nd_FORMS_3, sd_FORMS_3⟩)
    (dk_FORMS_4 : PySem.W.nsIn K u_FORMS "less" = some (some (.ref t_FORMS_4)))
    (dl_FORMS_4 : K.lookup t_FORMS_4 = some ⟨.type "tuple", od_FORMS_4, .seq (List.toArray [Value.str "number" td0_FORMS_4, Value.str "share" td1_FORMS_4]) nd_FORMS_4, sd_FORMS_4⟩)
    (dk_FORMS_5 : PySem.W.nsIn K u_FORMS "both" = some (some (.ref t_FORMS_5)))
    (dl_FORMS_5 : K.lookup t_FORMS_5 = some ⟨.type "tuple", od_FORMS_5, .seq (List.toArray [Value.str "number" td0_FORMS_5, Value.str "number" td1_FORMS_5]) nd_FORMS_5, sd_FORMS_5⟩)
    (dk_FORMS_6 : PySem.W.nsIn K u_FORMS "either" = some (some (.ref t_FORMS_6)))
    (dl_FORMS_6 : K.lookup t_FORMS_6 = some ⟨.type "tuple", od_FORMS_6, .seq (List.toArray [Value.str "number" td0_FORMS_6, Value.str "number" td1_FORMS_6]) nd_FORMS_6, sd_FORMS_6⟩)
    (zz_isinstance : PySem.W.nsIn K mainGlobals "isinstance" = some none)
    (zz_int : PySem.W.nsIn K mainGlobals "int" = some none)
    (zz_bool : PySem.W.nsIn K mainGlobals "bool" = some none)
    (zz_all : PySem.W.nsIn K mainGlobals "all" = some none)
    (zz_str : PySem.W.nsIn K mainGlobals "str" = some none)
    (zz_len : PySem.W.nsIn K mainGlobals "len" = some none)
    (zz_divmod : PySem.W.nsIn K mainGlobals "divmod" = some none)
    (zz_abs : PySem.W.nsIn K mainGlobals "abs" = some none)
    (zz_sum : PySem.W.nsIn K mainGlobals "sum" = some none)
    (zz_range : PySem.W.nsIn K mainGlobals "range" = some none)
    (zz_zip : PySem.W.nsIn K mainGlobals "zip" = some none)
    (zz_tuple : PySem.W.nsIn K mainGlobals "tuple" = some none)
    (zz_list : PySem.W.nsIn K mainGlobals "list" = some none)
    (zz_enumerate : PySem.W.nsIn K mainGlobals "enumerate" = some none)
    (zz_max : PySem.W.nsIn K mainGlobals "max" = some none)
    (zz_min : PySem.W.nsIn K mainGlobals "min" = some none)
    (zz_sorted : PySem.W.nsIn K mainGlobals "sorted" = some none)
    (zz_any : PySem.W.nsIn K mainGlobals "any" = some none)
    : ∃ fd : FuncData, (∀ (s : Shared) (v : Value), BindsTo s fd ⟨[v], []⟩ [("_law_script", v)]) ∧ ∀ base : Heap, K.In base → base.Ns mainGlobals mg → FnOk l.prog w K mg base CX0 14 fa fd ["_law_script"] (spLaw K) := by
  have e := hfa.symm.trans (PySem.W.mg_of X G a_law)
  cases e
  have F_m_NoMachine_init := fun_mk (st := s_m_NoMachine_init) l_m_NoMachine_init c_m_NoMachine_init_ k_m_NoMachine_init_
  have b_m_NoMachine_init := F_m_NoMachine_init.binds (ps := ["self", "part"]) fun _ _ _ _ _ _ us hl => match us, hl with | [_, _], _ => rfl
  have F_p_is_whole := fun_mk (st := s_p_is_whole) l_p_is_whole c_p_is_whole_ k_p_is_whole_
  have b_p_is_whole := F_p_is_whole.binds (ps := ["thing"]) fun _ _ _ _ _ _ us hl => match us, hl with | [_], _ => rfl
  have F_p_is_name := fun_mk (st := s_p_is_name) l_p_is_name c_p_is_name_ k_p_is_name_
  have b_p_is_name := F_p_is_name.binds (ps := ["thing"]) fun _ _ _ _ _ _ us hl => match us, hl with | [_], _ => rfl
  have F_p_written := fun_mk (st := s_p_written) l_p_written c_p_written_ k_p_written_
  have b_p_written := F_p_written.binds (ps := ["number"]) fun _ _ _ _ _ _ us hl => match us, hl with | [_], _ => rfl
  have F_m_Share_init : FunD K "__init__" "Share.__init__" (defArgs s_m_Share_init) (defBody s_m_Share_init) (defScope s_m_Share_init) [.int 1] [] f_m_Share_init (PySem.W.fnOf "__init__" "Share.__init__" (defArgs s_m_Share_init) (defBody s_m_Share_init) (defScope s_m_Share_init) (.ref t_m_Share_init) kV_m_Share_init dc_m_Share_init pm_m_Share_init an_m_Share_init cd_m_Share_init ct_m_Share_init) := ⟨⟨_, _, _, _, _, _, _, _, _, _, rfl, l_m_Share_init, c_m_Share_init_, .inr ⟨by simp, t_m_Share_init, _, _, _, rfl, lt_m_Share_init, rfl, (.cons ⟨_, rfl⟩ .nil)⟩, .inl rfl⟩, k_m_Share_init_⟩
  have b_m_Share_init : Binds K (PySem.W.fnOf "__init__" "Share.__init__" (defArgs s_m_Share_init) (defBody s_m_Share_init) (defScope s_m_Share_init) (.ref t_m_Share_init) kV_m_Share_init dc_m_Share_init pm_m_Share_init an_m_Share_init cd_m_Share_init ct_m_Share_init) ["self", "top", "bottom"] [] := by
    obtain ⟨ds, v0, b0⟩ := F_m_Share_init.binds1 (ps := ["self", "top", "bottom"]) 3 1 (by simp) rfl fun _ _ _ _ _ _ _ us its h1 h2 => match us, its, h1, h2 with | [_, _, _], [_], _, _ => ⟨_, rfl, rfl⟩
    cases v0
    exact b0
  have e_m_Share_init : ∃ ds, Vals [.int 1] ds ∧ Binds K (PySem.W.fnOf "__init__" "Share.__init__" (defArgs s_m_Share_init) (defBody s_m_Share_init) (defScope s_m_Share_init) (.ref t_m_Share_init) kV_m_Share_init dc_m_Share_init pm_m_Share_init an_m_Share_init cd_m_Share_init ct_m_Share_init) ["self", "top", "bottom"] ds := F_m_Share_init.binds1 2 0 (by simp) rfl fun _ _ _ _ _ _ _ us its h1 h2 => match us, its, h1, h2 with | [_, _], [_], _, _ => ⟨_, rfl, rfl⟩
  have F_m_Share_eq := fun_mk (st := s_m_Share_eq) l_m_Share_eq c_m_Share_eq_ k_m_Share_eq_
  have b_m_Share_eq := F_m_Share_eq.binds (ps := ["self", "other"]) fun _ _ _ _ _ _ us hl => match us, hl with | [_, _], _ => rfl
  have F_m_Share_str := fun_mk (st := s_m_Share_str) l_m_Share_str c_m_Share_str_ k_m_Share_str_
  have b_m_Share_str := F_m_Share_str.binds (ps := ["self"]) fun _ _ _ _ _ _ us hl => match us, hl with | [_], _ => rfl
  have F_p_common_part := fun_mk (st := s_p_common_part) l_p_common_part c_p_common_part_ k_p_common_part_
  have b_p_common_part := F_p_common_part.binds (ps := ["one", "other"]) fun _ _ _ _ _ _ us hl => match us, hl with | [_, _], _ => rfl
  have F_p_common_multiple := fun_mk (st := s_p_common_multiple) l_p_common_multiple c_p_common_multiple_ k_p_common_multiple_
  have b_p_common_multiple := F_p_common_multiple.binds (ps := ["one", "other"]) fun _ _ _ _ _ _ us hl => match us, hl with | [_, _], _ => rfl
  have F_p_lowest_share := fun_mk (st := s_p_lowest_share) l_p_lowest_share c_p_lowest_share_ k_p_lowest_share_
  have b_p_lowest_share := F_p_lowest_share.binds (ps := ["top", "bottom"]) fun _ _ _ _ _ _ us hl => match us, hl with | [_, _], _ => rfl
  have F_p_grain_of := fun_mk (st := s_p_grain_of) l_p_grain_of c_p_grain_of_ k_p_grain_of_
  have b_p_grain_of := F_p_grain_of.binds (ps := ["doors"]) fun _ _ _ _ _ _ us hl => match us, hl with | [_], _ => rfl
  have F_p_even_level := fun_mk (st := s_p_even_level) l_p_even_level c_p_even_level_ k_p_even_level_
  have b_p_even_level := F_p_even_level.binds (ps := ["number", "many"]) fun _ _ _ _ _ _ us hl => match us, hl with | [_, _], _ => rfl
  have F_p_stepped := fun_mk (st := s_p_stepped) l_p_stepped c_p_stepped_ k_p_stepped_
  have b_p_stepped := F_p_stepped.binds (ps := ["doors", "sign", "level"]) fun _ _ _ _ _ _ us hl => match us, hl with | [_, _, _], _ => rfl
  have F_p_awaited := fun_mk (st := s_p_awaited) l_p_awaited c_p_awaited_ k_p_awaited_
  have b_p_awaited := F_p_awaited.binds (ps := ["weights", "tops", "whole"]) fun _ _ _ _ _ _ us hl => match us, hl with | [_, _, _], _ => rfl
  have F_p_lowered := fun_mk (st := s_p_lowered) l_p_lowered c_p_lowered_ k_p_lowered_
  have b_p_lowered := F_p_lowered.binds (ps := ["level", "grain"]) fun _ _ _ _ _ _ us hl => match us, hl with | [_, _], _ => rfl
  have F_p_shared_part := fun_mk (st := s_p_shared_part) l_p_shared_part c_p_shared_part_ k_p_shared_part_
  have b_p_shared_part := F_p_shared_part.binds (ps := ["tops", "common"]) fun _ _ _ _ _ _ us hl => match us, hl with | [_, _], _ => rfl
  have F_p_same_bottoms := fun_mk (st := s_p_same_bottoms) l_p_same_bottoms c_p_same_bottoms_ k_p_same_bottoms_
  have b_p_same_bottoms := F_p_same_bottoms.binds (ps := ["one", "other"]) fun _ _ _ _ _ _ us hl => match us, hl with | [_, _], _ => rfl
  have F_p_shares_at := fun_mk (st := s_p_shares_at) l_p_shares_at c_p_shares_at_ k_p_shares_at_
  have b_p_shares_at := F_p_shares_at.binds (ps := ["level", "grain"]) fun _ _ _ _ _ _ us hl => match us, hl with | [_, _], _ => rfl
  have F_p_share_by := fun_mk (st := s_p_share_by) l_p_share_by c_p_share_by_ k_p_share_by_
  have b_p_share_by := F_p_share_by.binds (ps := ["top", "bottom", "grain"]) fun _ _ _ _ _ _ us hl => match us, hl with | [_, _, _], _ => rfl
  have F_p_is_such := fun_mk (st := s_p_is_such) l_p_is_such c_p_is_such_ k_p_is_such_
  have b_p_is_such := F_p_is_such.binds (ps := ["thing", "kind", "at"]) fun _ _ _ _ _ _ us hl => match us, hl with | [_, _, _], _ => rfl
  have F_p_is_row := fun_mk (st := s_p_is_row) l_p_is_row c_p_is_row_ k_p_is_row_
  have b_p_is_row := F_p_is_row.binds (ps := ["thing", "at"]) fun _ _ _ _ _ _ us hl => match us, hl with | [_, _], _ => rfl
  have F_p_check_book := fun_mk (st := s_p_check_book) l_p_check_book c_p_check_book_ k_p_check_book_
  have b_p_check_book := F_p_check_book.binds (ps := ["thing"]) fun _ _ _ _ _ _ us hl => match us, hl with | [_], _ => rfl
  have F_p_book_grain := fun_mk (st := s_p_book_grain) l_p_book_grain c_p_book_grain_ k_p_book_grain_
  have b_p_book_grain := F_p_book_grain.binds (ps := ["book", "fade", "doors"]) fun _ _ _ _ _ _ us hl => match us, hl with | [_, _, _], _ => rfl
  have F_p_level_of := fun_mk (st := s_p_level_of) l_p_level_of c_p_level_of_ k_p_level_of_
  have b_p_level_of := F_p_level_of.binds (ps := ["row", "fade", "doors", "levels", "grain"]) fun _ _ _ _ _ _ us hl => match us, hl with | [_, _, _, _, _], _ => rfl
  have F_p_faded := fun_mk (st := s_p_faded) l_p_faded c_p_faded_ k_p_faded_
  have b_p_faded := F_p_faded.binds (ps := ["fade", "level"]) fun _ _ _ _ _ _ us hl => match us, hl with | [_, _], _ => rfl
  have F_p_inverse := fun_mk (st := s_p_inverse) l_p_inverse c_p_inverse_ k_p_inverse_
  have b_p_inverse := F_p_inverse.binds (ps := ["level"]) fun _ _ _ _ _ _ us hl => match us, hl with | [_], _ => rfl
  have F_p_lessened := fun_mk (st := s_p_lessened) l_p_lessened c_p_lessened_ k_p_lessened_
  have b_p_lessened := F_p_lessened.binds (ps := ["level", "share"]) fun _ _ _ _ _ _ us hl => match us, hl with | [_, _], _ => rfl
  have F_p_check_fade := fun_mk (st := s_p_check_fade) l_p_check_fade c_p_check_fade_ k_p_check_fade_
  have b_p_check_fade := F_p_check_fade.binds (ps := ["thing"]) fun _ _ _ _ _ _ us hl => match us, hl with | [_], _ => rfl
  have F_m_Machine_init := fun_mk (st := s_m_Machine_init) l_m_Machine_init c_m_Machine_init_ k_m_Machine_init_
  have b_m_Machine_init := F_m_Machine_init.binds (ps := ["self", "many", "steps"]) fun _ _ _ _ _ _ us hl => match us, hl with | [_, _, _], _ => rfl
  have F_m_Machine_eq := fun_mk (st := s_m_Machine_eq) l_m_Machine_eq c_m_Machine_eq_ k_m_Machine_eq_
  have b_m_Machine_eq := F_m_Machine_eq.binds (ps := ["self", "other"]) fun _ _ _ _ _ _ us hl => match us, hl with | [_, _], _ => rfl
  have F_m_Machine_len := fun_mk (st := s_m_Machine_len) l_m_Machine_len c_m_Machine_len_ k_m_Machine_len_
  have b_m_Machine_len := F_m_Machine_len.binds (ps := ["self"]) fun _ _ _ _ _ _ us hl => match us, hl with | [_], _ => rfl
  have F_p_is_room := fun_mk (st := s_p_is_room) l_p_is_room c_p_is_room_ k_p_is_room_
  have b_p_is_room := F_p_is_room.binds (ps := ["thing", "many"]) fun _ _ _ _ _ _ us hl => match us, hl with | [_, _], _ => rfl
  have F_p_are_weights := fun_mk (st := s_p_are_weights) l_p_are_weights c_p_are_weights_ k_p_are_weights_
  have b_p_are_weights := F_p_are_weights.binds (ps := ["thing", "many"]) fun _ _ _ _ _ _ us hl => match us, hl with | [_, _], _ => rfl
  have F_p_is_step := fun_mk (st := s_p_is_step) l_p_is_step c_p_is_step_ k_p_is_step_
  have b_p_is_step := F_p_is_step.binds (ps := ["thing", "many"]) fun _ _ _ _ _ _ us hl => match us, hl with | [_, _], _ => rfl
  have F_p_are_steps := fun_mk (st := s_p_are_steps) l_p_are_steps c_p_are_steps_ k_p_are_steps_
  have b_p_are_steps := F_p_are_steps.binds (ps := ["thing", "many"]) fun _ _ _ _ _ _ us hl => match us, hl with | [_, _], _ => rfl
  have F_p_lowest := fun_mk (st := s_p_lowest) l_p_lowest c_p_lowest_ k_p_lowest_
  have b_p_lowest := F_p_lowest.binds (ps := ["weights"]) fun _ _ _ _ _ _ us hl => match us, hl with | [_], _ => rfl
  have F_p_doors_of := fun_mk (st := s_p_doors_of) l_p_doors_of c_p_doors_of_ k_p_doors_of_
  have b_p_doors_of := F_p_doors_of.binds (ps := ["machine"]) fun _ _ _ _ _ _ us hl => match us, hl with | [_], _ => rfl
  have F_p_worths := fun_mk (st := s_p_worths) l_p_worths c_p_worths_ k_p_worths_
  have b_p_worths := F_p_worths.binds (ps := ["book", "fade", "machine"]) fun _ _ _ _ _ _ us hl => match us, hl with | [_, _, _], _ => rfl
  have F_p_worth := fun_mk (st := s_p_worth) l_p_worth c_p_worth_ k_p_worth_
  have b_p_worth := F_p_worth.binds (ps := ["book", "fade", "machine"]) fun _ _ _ _ _ _ us hl => match us, hl with | [_, _, _], _ => rfl
  have F_l_well := fun_mk (st := s_l_well) l_l_well c_l_well_ k_l_well_
  have b_l_well := F_l_well.binds (ps := ["_law_cell"]) fun _ _ _ _ _ _ us hl => match us, hl with | [_], _ => rfl
  have F_l_draw := fun_mk (st := s_l_draw) l_l_draw c_l_draw_ k_l_draw_
  have b_l_draw := F_l_draw.binds (ps := ["_law_well_here", "_law_many"]) fun _ _ _ _ _ _ us hl => match us, hl with | [_, _], _ => rfl
  have F_l_one := fun_mk (st := s_l_one) l_l_one c_l_one_ k_l_one_
  have b_l_one := F_l_one.binds (ps := ["_law_well_here", "_law_some"]) fun _ _ _ _ _ _ us hl => match us, hl with | [_, _], _ => rfl
  have F_l_names := fun_mk (st := s_l_names) l_l_names c_l_names_ k_l_names_
  have b_l_names := F_l_names.binds (ps := ["_law_well_here", "_law_many"]) fun _ _ _ _ _ _ us hl => match us, hl with | [_, _], _ => rfl
  have F_l_weights := fun_mk (st := s_l_weights) l_l_weights c_l_weights_ k_l_weights_
  have b_l_weights := F_l_weights.binds (ps := ["_law_well_here", "_law_many"]) fun _ _ _ _ _ _ us hl => match us, hl with | [_, _], _ => rfl
  have F_l_machine := fun_mk (st := s_l_machine) l_l_machine c_l_machine_ k_l_machine_
  have b_l_machine := F_l_machine.binds (ps := ["_law_well_here", "_law_signs", "_law_most"]) fun _ _ _ _ _ _ us hl => match us, hl with | [_, _, _], _ => rfl
  have F_l_fade := fun_mk (st := s_l_fade) l_l_fade c_l_fade_ k_l_fade_
  have b_l_fade := F_l_fade.binds (ps := ["_law_well_here"]) fun _ _ _ _ _ _ us hl => match us, hl with | [_], _ => rfl
  have F_l_low := fun_mk (st := s_l_low) l_l_low c_l_low_ k_l_low_
  have b_l_low := F_l_low.binds (ps := ["_law_top", "_law_bottom"]) fun _ _ _ _ _ _ us hl => match us, hl with | [_, _], _ => rfl
  have F_l_less := fun_mk (st := s_l_less) l_l_less c_l_less_ k_l_less_
  have b_l_less := F_l_less.binds (ps := ["_law_one_here", "_law_other"]) fun _ _ _ _ _ _ us hl => match us, hl with | [_, _], _ => rfl
  have F_l_minus := fun_mk (st := s_l_minus) l_l_minus c_l_minus_ k_l_minus_
  have b_l_minus := F_l_minus.binds (ps := ["_law_one_here", "_law_other"]) fun _ _ _ _ _ _ us hl => match us, hl with | [_, _], _ => rfl
  have F_l_share := fun_mk (st := s_l_share) l_l_share c_l_share_ k_l_share_
  have b_l_share := F_l_share.binds (ps := ["_law_well_here"]) fun _ _ _ _ _ _ us hl => match us, hl with | [_], _ => rfl
  have F_l_row := fun_mk (st := s_l_row) l_l_row c_l_row_ k_l_row_
  have b_l_row := F_l_row.binds (ps := ["_law_well_here", "_law_signs", "_law_at"]) fun _ _ _ _ _ _ us hl => match us, hl with | [_, _, _], _ => rfl
  have F_l_rows := fun_mk (st := s_l_rows) l_l_rows c_l_rows_ k_l_rows_
  have b_l_rows := F_l_rows.binds (ps := ["_law_well_here", "_law_signs", "_law_most"]) fun _ _ _ _ _ _ us hl => match us, hl with | [_, _, _], _ => rfl
  have F_l_book := fun_mk (st := s_l_book) l_l_book c_l_book_ k_l_book_
  have b_l_book := F_l_book.binds (ps := ["_law_rows_here"]) fun _ _ _ _ _ _ us hl => match us, hl with | [_], _ => rfl
  have F_l_onward := fun_mk (st := s_l_onward) l_l_onward c_l_onward_ k_l_onward_
  have b_l_onward := F_l_onward.binds (ps := ["_law_steps", "_law_room", "_law_sign"]) fun _ _ _ _ _ _ us hl => match us, hl with | [_, _, _], _ => rfl
  have F_l_on := fun_mk (st := s_l_on) l_l_on c_l_on_ k_l_on_
  have b_l_on := F_l_on.binds (ps := ["_law_fade_here", "_law_steps", "_law_room", "_law_sign", "_law_there"]) fun _ _ _ _ _ _ us hl => match us, hl with | [_, _, _, _, _], _ => rfl
  have F_l_worths_of := fun_mk (st := s_l_worths_of) l_l_worths_of c_l_worths_of_ k_l_worths_of_
  have b_l_worths_of := F_l_worths_of.binds (ps := ["_law_row_here", "_law_fade_here", "_law_many", "_law_steps", "_law_found"]) fun _ _ _ _ _ _ us hl => match us, hl with | [_, _, _, _, _], _ => rfl
  have F_l_worths := fun_mk (st := s_l_worths) l_l_worths c_l_worths_ k_l_worths_
  have b_l_worths := F_l_worths.binds (ps := ["_law_rows_here", "_law_fade_here", "_law_many", "_law_steps"]) fun _ _ _ _ _ _ us hl => match us, hl with | [_, _, _, _], _ => rfl
  have F_l_doubled := fun_mk (st := s_l_doubled) l_l_doubled c_l_doubled_ k_l_doubled_
  have b_l_doubled := F_l_doubled.binds (ps := ["_law_well_here", "_law_rows_here", "_law_many"]) fun _ _ _ _ _ _ us hl => match us, hl with | [_, _, _], _ => rfl
  have F_l_told := fun_mk (st := s_l_told) l_l_told c_l_told_ k_l_told_
  have b_l_told := F_l_told.binds (ps := ["_law_table"]) fun _ _ _ _ _ _ us hl => match us, hl with | [_], _ => rfl
  have F_l_heads := fun_mk (st := s_l_heads) l_l_heads c_l_heads_ k_l_heads_
  have b_l_heads := F_l_heads.binds (ps := ["_law_rows_here"]) fun _ _ _ _ _ _ us hl => match us, hl with | [_], _ => rfl
  have F_law := fun_mk (st := s_law) l_law c_law_ k_law_
  have b_law := F_law.binds (ps := ["_law_script"]) fun _ _ _ _ _ _ us hl => match us, hl with | [_], _ => rfl
  exact ⟨PySem.W.fnOf "law" "law" (defArgs s_law) (defBody s_law) (defScope s_law) .none kV_law dc_law pm_law an_law cd_law ct_law, fun s v => .of_eq rfl, fun base _ _ => ok_law (⟨c_FarError, (PySem.W.mg_of X G a_FarError), c_NoShare, (PySem.W.mg_of X G a_NoShare), c_NoMachine, (PySem.W.mg_of X G a_NoMachine), c_NoFade, (PySem.W.mg_of X G a_NoFade), c_NoBook, (PySem.W.mg_of X G a_NoBook), c_Share, (PySem.W.mg_of X G a_Share), c_Machine, (PySem.W.mg_of X G a_Machine), f_m_NoMachine_init, _, F_m_NoMachine_init, b_m_NoMachine_init, f_p_is_whole, _, F_p_is_whole, b_p_is_whole, (PySem.W.mg_of X G a_p_is_whole), f_p_is_name, _, F_p_is_name, b_p_is_name, (PySem.W.mg_of X G a_p_is_name), f_p_written, _, F_p_written, b_p_written, (PySem.W.mg_of X G a_p_written), f_m_Share_init, _, F_m_Share_init, b_m_Share_init, e_m_Share_init, f_m_Share_eq, _, F_m_Share_eq, b_m_Share_eq, f_m_Share_str, _, F_m_Share_str, b_m_Share_str, f_p_common_part, _, F_p_common_part, b_p_common_part, (PySem.W.mg_of X G a_p_common_part), f_p_common_multiple, _, F_p_common_multiple, b_p_common_multiple, (PySem.W.mg_of X G a_p_common_multiple), f_p_lowest_share, _, F_p_lowest_share, b_p_lowest_share, (PySem.W.mg_of X G a_p_lowest_share), f_p_grain_of, _, F_p_grain_of, b_p_grain_of, (PySem.W.mg_of X G a_p_grain_of), f_p_even_level, _, F_p_even_level, b_p_even_level, (PySem.W.mg_of X G a_p_even_level), f_p_stepped, _, F_p_stepped, b_p_stepped, (PySem.W.mg_of X G a_p_stepped), f_p_awaited, _, F_p_awaited, b_p_awaited, (PySem.W.mg_of X G a_p_awaited), f_p_lowered, _, F_p_lowered, b_p_lowered, (PySem.W.mg_of X G a_p_lowered), f_p_shared_part, _, F_p_shared_part, b_p_shared_part, (PySem.W.mg_of X G a_p_shared_part), f_p_same_bottoms, _, F_p_same_bottoms, b_p_same_bottoms, (PySem.W.mg_of X G a_p_same_bottoms), f_p_shares_at, _, F_p_shares_at, b_p_shares_at, (PySem.W.mg_of X G a_p_shares_at), f_p_share_by, _, F_p_share_by, b_p_share_by, (PySem.W.mg_of X G a_p_share_by), f_p_is_such, _, F_p_is_such, b_p_is_such, (PySem.W.mg_of X G a_p_is_such), f_p_is_row, _, F_p_is_row, b_p_is_row, (PySem.W.mg_of X G a_p_is_row), f_p_check_book, _, F_p_check_book, b_p_check_book, (PySem.W.mg_of X G a_p_check_book), f_p_book_grain, _, F_p_book_grain, b_p_book_grain, (PySem.W.mg_of X G a_p_book_grain), f_p_level_of, _, F_p_level_of, b_p_level_of, (PySem.W.mg_of X G a_p_level_of), f_p_faded, _, F_p_faded, b_p_faded, (PySem.W.mg_of X G a_p_faded), f_p_inverse, _, F_p_inverse, b_p_inverse, (PySem.W.mg_of X G a_p_inverse), f_p_lessened, _, F_p_lessened, b_p_lessened, (PySem.W.mg_of X G a_p_lessened), f_p_check_fade, _, F_p_check_fade, b_p_check_fade, (PySem.W.mg_of X G a_p_check_fade), f_m_Machine_init, _, F_m_Machine_init, b_m_Machine_init, f_m_Machine_eq, _, F_m_Machine_eq, b_m_Machine_eq, f_m_Machine_len, _, F_m_Machine_len, b_m_Machine_len, f_p_is_room, _, F_p_is_room, b_p_is_room, (PySem.W.mg_of X G a_p_is_room), f_p_are_weights, _, F_p_are_weights, b_p_are_weights, (PySem.W.mg_of X G a_p_are_weights), f_p_is_step, _, F_p_is_step, b_p_is_step, (PySem.W.mg_of X G a_p_is_step), f_p_are_steps, _, F_p_are_steps, b_p_are_steps, (PySem.W.mg_of X G a_p_are_steps), f_p_lowest, _, F_p_lowest, b_p_lowest, (PySem.W.mg_of X G a_p_lowest), f_p_doors_of, _, F_p_doors_of, b_p_doors_of, (PySem.W.mg_of X G a_p_doors_of), f_p_worths, _, F_p_worths, b_p_worths, (PySem.W.mg_of X G a_p_worths), f_p_worth, _, F_p_worth, b_p_worth, (PySem.W.mg_of X G a_p_worth), f_l_well, _, F_l_well, b_l_well, (PySem.W.mg_of X G a_l_well), f_l_draw, _, F_l_draw, b_l_draw, (PySem.W.mg_of X G a_l_draw), f_l_one, _, F_l_one, b_l_one, (PySem.W.mg_of X G a_l_one), f_l_names, _, F_l_names, b_l_names, (PySem.W.mg_of X G a_l_names), f_l_weights, _, F_l_weights, b_l_weights, (PySem.W.mg_of X G a_l_weights), f_l_machine, _, F_l_machine, b_l_machine, (PySem.W.mg_of X G a_l_machine), f_l_fade, _, F_l_fade, b_l_fade, (PySem.W.mg_of X G a_l_fade), f_l_low, _, F_l_low, b_l_low, (PySem.W.mg_of X G a_l_low), f_l_less, _, F_l_less, b_l_less, (PySem.W.mg_of X G a_l_less), f_l_minus, _, F_l_minus, b_l_minus, (PySem.W.mg_of X G a_l_minus), f_l_share, _, F_l_share, b_l_share, (PySem.W.mg_of X G a_l_share), f_l_row, _, F_l_row, b_l_row, (PySem.W.mg_of X G a_l_row), f_l_rows, _, F_l_rows, b_l_rows, (PySem.W.mg_of X G a_l_rows), f_l_book, _, F_l_book, b_l_book, (PySem.W.mg_of X G a_l_book), f_l_onward, _, F_l_onward, b_l_onward, (PySem.W.mg_of X G a_l_onward), f_l_on, _, F_l_on, b_l_on, (PySem.W.mg_of X G a_l_on), f_l_worths_of, _, F_l_worths_of, b_l_worths_of, (PySem.W.mg_of X G a_l_worths_of), f_l_worths, _, F_l_worths, b_l_worths, (PySem.W.mg_of X G a_l_worths), f_l_doubled, _, F_l_doubled, b_l_doubled, (PySem.W.mg_of X G a_l_doubled), f_l_told, _, F_l_told, b_l_told, (PySem.W.mg_of X G a_l_told), f_l_heads, _, F_l_heads, b_l_heads, (PySem.W.mg_of X G a_l_heads), _, _, F_law, b_law, (PySem.W.mg_of X G a_law), ⟨pg_Share, hd_Share, po_Share, sa_Share⟩, ⟨mk_Share, a_m_Share_init, if_Share, kc_Share⟩, ⟨ha_Share, hn_Share, ht_Share, hm_Share⟩, n_Share_top, n_Share_bottom, ⟨a_m_Share_eq, i_m_Share_eq, k_m_Share_eq_⟩, ⟨a_m_Share_str, i_m_Share_str, k_m_Share_str_⟩, nn_Share, nf_Share_int, nf_Share_str, nf_Share_NoneType, nf_Share_list, nf_Share_tuple, nf_Share_dict, nf_Share_bool, ko_Share, ko_Share_int, ko_Share_str, ko_Share_NoneType, ko_Share_list, ko_Share_tuple, ko_Share_dict, ko_Share_bool, ⟨pg_Machine, hd_Machine, po_Machine, sa_Machine⟩, ⟨mk_Machine, a_m_Machine_init, if_Machine, kc_Machine⟩, ⟨ha_Machine, hn_Machine, ht_Machine, hm_Machine⟩, n_Machine_many, n_Machine_steps, ⟨a_m_Machine_eq, i_m_Machine_eq, k_m_Machine_eq_⟩, ⟨a_m_Machine_len, i_m_Machine_len, k_m_Machine_len_⟩, nn_Machine, nf_Machine_int, nf_Machine_str, nf_Machine_NoneType, nf_Machine_list, nf_Machine_tuple, nf_Machine_dict, nf_Machine_bool, ko_Machine, ko_Machine_int, ko_Machine_str, ko_Machine_NoneType, ko_Machine_list, ko_Machine_tuple, ko_Machine_dict, ko_Machine_bool, _, (PySem.W.mg_of X G ac_LETTERS), ⟨_, rfl⟩, _, (PySem.W.mg_of X G ac_LONGEST_NAME), ⟨_, rfl⟩, _, (PySem.W.mg_of X G ac_PIECE_LENGTH), ⟨_, rfl⟩, _, (PySem.W.mg_of X G ac_MOST_ROOMS), ⟨_, rfl⟩, w.params, u_FORMS, (PySem.W.mg_of X G ad_FORMS), e_FORMS, n_FORMS, al_FORMS, li_FORMS, lo_FORMS, t_FORMS_0, dk_FORMS_0, ⟨_, _, _, dl_FORMS_0, rfl, rfl, by simp [sizeLine], .nil⟩, t_FORMS_1, dk_FORMS_1, ⟨_, _, _, dl_FORMS_1, rfl, rfl, by simp [sizeLine], (.cons ⟨_, rfl⟩ .nil)⟩, t_FORMS_2, dk_FORMS_2, ⟨_, _, _, dl_FORMS_2, rfl, rfl, by simp [sizeLine], (.cons ⟨_, rfl⟩ (.cons ⟨_, rfl⟩ .nil))⟩, t_FORMS_3, dk_FORMS_3, ⟨_, _, _, dl_FORMS_3, rfl, rfl, by simp [sizeLine], (.cons ⟨_, rfl⟩ .nil)⟩, t_FORMS_4, dk_FORMS_4, ⟨_, _, _, dl_FORMS_4, rfl, rfl, by simp [sizeLine], (.cons ⟨_, rfl⟩ (.cons ⟨_, rfl⟩ .nil))⟩, t_FORMS_5, dk_FORMS_5, ⟨_, _, _, dl_FORMS_5, rfl, rfl, by simp [sizeLine], (.cons ⟨_, rfl⟩ (.cons ⟨_, rfl⟩ .nil))⟩, t_FORMS_6, dk_FORMS_6, ⟨_, _, _, dl_FORMS_6, rfl, rfl, by simp [sizeLine], (.cons ⟨_, rfl⟩ (.cons ⟨_, rfl⟩ .nil))⟩, (PySem.W.mg_none_of X G zz_isinstance), (PySem.W.mg_none_of X G zz_int), (PySem.W.mg_none_of X G zz_bool), (PySem.W.mg_none_of X G zz_all), (PySem.W.mg_none_of X G zz_str), (PySem.W.mg_none_of X G zz_len), (PySem.W.mg_none_of X G zz_divmod), (PySem.W.mg_none_of X G zz_abs), (PySem.W.mg_none_of X G zz_sum), (PySem.W.mg_none_of X G zz_range), (PySem.W.mg_none_of X G zz_zip), (PySem.W.mg_none_of X G zz_tuple), (PySem.W.mg_none_of X G zz_list), (PySem.W.mg_none_of X G zz_enumerate), (PySem.W.mg_none_of X G zz_max), (PySem.W.mg_none_of X G zz_min), (PySem.W.mg_none_of X G zz_sorted), (PySem.W.mg_none_of X G zz_any)⟩ : Txt K mg) rfl⟩
end Fb
open PySem PySem.W PyProof.Rows
set_option maxRecDepth 100000 in
set_option maxHeartbeats 0 in
theorem PySem.Challenge.cw_farbetween_k52_worths_of_sayings_holds : PySem.Challenge.rw_farbetween_k52_worths_of_sayings.Holds := by
  w_on; o_law; k_head; (case hw => w_witness2)
  k_fill
  refine L2.walk_of (l := PySem.Challenge.rw_farbetween_k52_worths_of_sayings) (n := 63) (k := 14) (x := "_law_script") (CX := fun _ => L2.CX0) (sp := fun w => Fb.spLaw _) rfl (by decide) rfl ⟨rfl, by decide, by decide⟩ (fun w h Y => PySem.W.kIn_of Y) ?F (fun _ _ a ns hl _ hS => ⟨a, ns, rfl, hS, hl, fun _ => rfl⟩) (fun _ _ _ _ _ h => h)
  case F =>
    intro w mg fa h KX G hmg
    refine' Fb.all_mk KX G hmg ?a_FarError ?a_NoShare ?a_NoMachine ?a_NoFade ?a_NoBook ?a_Share ?a_Machine ?a_m_NoMachine_init ?l_m_NoMachine_init ?c_m_NoMachine_init_ ?k_m_NoMachine_init_ ?a_p_is_whole ?l_p_is_whole ?c_p_is_whole_ ?k_p_is_whole_ ?a_p_is_name ?l_p_is_name ?c_p_is_name_ ?k_p_is_name_ ?a_p_written ?l_p_written ?c_p_written_ ?k_p_written_ ?a_m_Share_init ?l_m_Share_init ?lt_m_Share_init ?c_m_Share_init_ ?k_m_Share_init_ ?a_m_Share_eq ?l_m_Share_eq ?c_m_Share_eq_ ?k_m_Share_eq_ ?a_m_Share_str ?l_m_Share_str ?c_m_Share_str_ ?k_m_Share_str_ ?a_p_common_part ?l_p_common_part ?c_p_common_part_ ?k_p_common_part_ ?a_p_common_multiple ?l_p_common_multiple ?c_p_common_multiple_ ?k_p_common_multiple_ ?a_p_lowest_share ?l_p_lowest_share ?c_p_lowest_share_ ?k_p_lowest_share_ ?a_p_grain_of ?l_p_grain_of ?c_p_grain_of_ ?k_p_grain_of_ ?a_p_even_level ?l_p_even_level ?c_p_even_level_ ?k_p_even_level_ ?a_p_stepped ?l_p_stepped ?c_p_stepped_ ?k_p_stepped_ ?a_p_awaited ?l_p_awaited ?c_p_awaited_ ?k_p_awaited_ ?a_p_lowered ?l_p_lowered ?c_p_lowered_ ?k_p_lowered_ ?a_p_shared_part ?l_p_shared_part ?c_p_shared_part_ ?k_p_shared_part_ ?a_p_same_bottoms ?l_p_same_bottoms ?c_p_same_bottoms_ ?k_p_same_bottoms_ ?a_p_shares_at ?l_p_shares_at ?c_p_shares_at_ ?k_p_shares_at_ ?a_p_share_by ?l_p_share_by ?c_p_share_by_ ?k_p_share_by_ ?a_p_is_such ?l_p_is_such ?c_p_is_such_ ?k_p_is_such_ ?a_p_is_row ?l_p_is_row ?c_p_is_row_ ?k_p_is_row_ ?a_p_check_book ?l_p_check_book ?c_p_check_book_ ?k_p_check_book_ ?a_p_book_grain ?l_p_book_grain ?c_p_book_grain_ ?k_p_book_grain_ ?a_p_level_of ?l_p_level_of ?c_p_level_of_ ?k_p_level_of_ ?a_p_faded ?l_p_faded ?c_p_faded_ ?k_p_faded_ ?a_p_inverse ?l_p_inverse ?c_p_inverse_ ?k_p_inverse_ ?a_p_lessened ?l_p_lessened ?c_p_lessened_ ?k_p_lessened_ ?a_p_check_fade ?l_p_check_fade ?c_p_check_fade_ ?k_p_check_fade_ ?a_m_Machine_init ?l_m_Machine_init ?c_m_Machine_init_ ?k_m_Machine_init_ ?a_m_Machine_eq ?l_m_Machine_eq ?c_m_Machine_eq_ ?k_m_Machine_eq_ ?a_m_Machine_len ?l_m_Machine_len ?c_m_Machine_len_ ?k_m_Machine_len_ ?a_p_is_room ?l_p_is_room ?c_p_is_room_ ?k_p_is_room_ ?a_p_are_weights ?l_p_are_weights ?c_p_are_weights_ ?k_p_are_weights_ ?a_p_is_step ?l_p_is_step ?c_p_is_step_ ?k_p_is_step_ ?a_p_are_steps ?l_p_are_steps ?c_p_are_steps_ ?k_p_are_steps_ ?a_p_lowest ?l_p_lowest ?c_p_lowest_ ?k_p_lowest_ ?a_p_doors_of ?l_p_doors_of ?c_p_doors_of_ ?k_p_doors_of_ ?a_p_worths ?l_p_worths ?c_p_worths_ ?k_p_worths_ ?a_p_worth ?l_p_worth ?c_p_worth_ ?k_p_worth_ ?a_l_well ?l_l_well ?c_l_well_ ?k_l_well_ ?a_l_draw ?l_l_draw ?c_l_draw_ ?k_l_draw_ ?a_l_one ?l_l_one ?c_l_one_ ?k_l_one_ ?a_l_names ?l_l_names ?c_l_names_ ?k_l_names_ ?a_l_weights ?l_l_weights ?c_l_weights_ ?k_l_weights_ ?a_l_machine ?l_l_machine ?c_l_machine_ ?k_l_machine_ ?a_l_fade ?l_l_fade ?c_l_fade_ ?k_l_fade_ ?a_l_low ?l_l_low ?c_l_low_ ?k_l_low_ ?a_l_less ?l_l_less ?c_l_less_ ?k_l_less_ ?a_l_minus ?l_l_minus ?c_l_minus_ ?k_l_minus_ ?a_l_share ?l_l_share ?c_l_share_ ?k_l_share_ ?a_l_row ?l_l_row ?c_l_row_ ?k_l_row_ ?a_l_rows ?l_l_rows ?c_l_rows_ ?k_l_rows_ ?a_l_book ?l_l_book ?c_l_book_ ?k_l_book_ ?a_l_onward ?l_l_onward ?c_l_onward_ ?k_l_onward_ ?a_l_on ?l_l_on ?c_l_on_ ?k_l_on_ ?a_l_worths_of ?l_l_worths_of ?c_l_worths_of_ ?k_l_worths_of_ ?a_l_worths ?l_l_worths ?c_l_worths_ ?k_l_worths_ ?a_l_doubled ?l_l_doubled ?c_l_doubled_ ?k_l_doubled_ ?a_l_told ?l_l_told ?c_l_told_ ?k_l_told_ ?a_l_heads ?l_l_heads ?c_l_heads_ ?k_l_heads_ ?a_law ?l_law ?c_law_ ?k_law_ ?pg_Share ?hd_Share ?po_Share ?sa_Share ?mk_Share ?kc_Share ?if_Share ?ha_Share ?hn_Share ?ht_Share ?hm_Share ?n_Share_top ?n_Share_bottom ?i_m_Share_eq ?i_m_Share_str ?nn_Share ?nf_Share_int ?nf_Share_str ?nf_Share_NoneType ?nf_Share_list ?nf_Share_tuple ?nf_Share_dict ?nf_Share_bool ?ko_Share ?ko_Share_int ?ko_Share_str ?ko_Share_NoneType ?ko_Share_list ?ko_Share_tuple ?ko_Share_dict ?ko_Share_bool ?pg_Machine ?hd_Machine ?po_Machine ?sa_Machine ?mk_Machine ?kc_Machine ?if_Machine ?ha_Machine ?hn_Machine ?ht_Machine ?hm_Machine ?n_Machine_many ?n_Machine_steps ?i_m_Machine_eq ?i_m_Machine_len ?nn_Machine ?nf_Machine_int ?nf_Machine_str ?nf_Machine_NoneType ?nf_Machine_list ?nf_Machine_tuple ?nf_Machine_dict ?nf_Machine_bool ?ko_Machine ?ko_Machine_int ?ko_Machine_str ?ko_Machine_NoneType ?ko_Machine_list ?ko_Machine_tuple ?ko_Machine_dict ?ko_Machine_bool ?ac_LETTERS ?ac_LONGEST_NAME ?ac_PIECE_LENGTH ?ac_MOST_ROOMS ?ad_FORMS ?al_FORMS ?li_FORMS ?lo_FORMS ?dk_FORMS_0 ?dl_FORMS_0 ?dk_FORMS_1 ?dl_FORMS_1 ?dk_FORMS_2 ?dl_FORMS_2 ?dk_FORMS_3 ?dl_FORMS_3 ?dk_FORMS_4 ?dl_FORMS_4 ?dk_FORMS_5 ?dl_FORMS_5 ?dk_FORMS_6 ?dl_FORMS_6 ?zz_isinstance ?zz_int ?zz_bool ?zz_all ?zz_str ?zz_len ?zz_divmod ?zz_abs ?zz_sum ?zz_range ?zz_zip ?zz_tuple ?zz_list ?zz_enumerate ?zz_max ?zz_min ?zz_sorted ?zz_any
    (case a_FarError => k_is)
    (case a_NoShare => k_is)
    (case a_NoMachine => k_is)
    (case a_NoFade => k_is)
    (case a_NoBook => k_is)
    (case a_Share => k_is)
    (case a_Machine => k_is)
    (case a_m_NoMachine_init => k_is)
    (case l_m_NoMachine_init => k_is)
    (case c_m_NoMachine_init_ => k_is)
    (case k_m_NoMachine_init_ => k_is)
    (case a_p_is_whole => k_is)
    (case l_p_is_whole => k_is)
    (case c_p_is_whole_ => k_is)
    (case k_p_is_whole_ => k_is)
    (case a_p_is_name => k_is)
    (case l_p_is_name => k_is)
    (case c_p_is_name_ => k_is)
    (case k_p_is_name_ => k_is)
    (case a_p_written => k_is)
    (case l_p_written => k_is)
    (case c_p_written_ => k_is)
    (case k_p_written_ => k_is)
    (case a_m_Share_init => k_is)
    (case l_m_Share_init => k_is)
    (case lt_m_Share_init => k_is)
    (case c_m_Share_init_ => k_is)
    (case k_m_Share_init_ => k_is)
    (case a_m_Share_eq => k_is)
    (case l_m_Share_eq => k_is)
    (case c_m_Share_eq_ => k_is)
    (case k_m_Share_eq_ => k_is)
    (case a_m_Share_str => k_is)
    (case l_m_Share_str => k_is)
    (case c_m_Share_str_ => k_is)
    (case k_m_Share_str_ => k_is)
    (case a_p_common_part => k_is)
    (case l_p_common_part => k_is)
    (case c_p_common_part_ => k_is)
    (case k_p_common_part_ => k_is)
    (case a_p_common_multiple => k_is)
    (case l_p_common_multiple => k_is)
    (case c_p_common_multiple_ => k_is)
    (case k_p_common_multiple_ => k_is)
    (case a_p_lowest_share => k_is)
    (case l_p_lowest_share => k_is)
    (case c_p_lowest_share_ => k_is)
    (case k_p_lowest_share_ => k_is)
    (case a_p_grain_of => k_is)
    (case l_p_grain_of => k_is)
    (case c_p_grain_of_ => k_is)
    (case k_p_grain_of_ => k_is)
    (case a_p_even_level => k_is)
    (case l_p_even_level => k_is)
    (case c_p_even_level_ => k_is)
    (case k_p_even_level_ => k_is)
    (case a_p_stepped => k_is)
    (case l_p_stepped => k_is)
    (case c_p_stepped_ => k_is)
    (case k_p_stepped_ => k_is)
    (case a_p_awaited => k_is)
    (case l_p_awaited => k_is)
    (case c_p_awaited_ => k_is)
    (case k_p_awaited_ => k_is)
    (case a_p_lowered => k_is)
    (case l_p_lowered => k_is)
    (case c_p_lowered_ => k_is)
    (case k_p_lowered_ => k_is)
    (case a_p_shared_part => k_is)
    (case l_p_shared_part => k_is)
    (case c_p_shared_part_ => k_is)
    (case k_p_shared_part_ => k_is)
    (case a_p_same_bottoms => k_is)
    (case l_p_same_bottoms => k_is)
    (case c_p_same_bottoms_ => k_is)
    (case k_p_same_bottoms_ => k_is)
    (case a_p_shares_at => k_is)
    (case l_p_shares_at => k_is)
    (case c_p_shares_at_ => k_is)
    (case k_p_shares_at_ => k_is)
    (case a_p_share_by => k_is)
    (case l_p_share_by => k_is)
    (case c_p_share_by_ => k_is)
    (case k_p_share_by_ => k_is)
    (case a_p_is_such => k_is)
    (case l_p_is_such => k_is)
    (case c_p_is_such_ => k_is)
    (case k_p_is_such_ => k_is)
    (case a_p_is_row => k_is)
    (case l_p_is_row => k_is)
    (case c_p_is_row_ => k_is)
    (case k_p_is_row_ => k_is)
    (case a_p_check_book => k_is)
    (case l_p_check_book => k_is)
    (case c_p_check_book_ => k_is)
    (case k_p_check_book_ => k_is)
    (case a_p_book_grain => k_is)
    (case l_p_book_grain => k_is)
    (case c_p_book_grain_ => k_is)
    (case k_p_book_grain_ => k_is)
    (case a_p_level_of => k_is)
    (case l_p_level_of => k_is)
    (case c_p_level_of_ => k_is)
    (case k_p_level_of_ => k_is)
    (case a_p_faded => k_is)
    (case l_p_faded => k_is)
    (case c_p_faded_ => k_is)
    (case k_p_faded_ => k_is)
    (case a_p_inverse => k_is)
    (case l_p_inverse => k_is)
    (case c_p_inverse_ => k_is)
    (case k_p_inverse_ => k_is)
    (case a_p_lessened => k_is)
    (case l_p_lessened => k_is)
    (case c_p_lessened_ => k_is)
    (case k_p_lessened_ => k_is)
    (case a_p_check_fade => k_is)
    (case l_p_check_fade => k_is)
    (case c_p_check_fade_ => k_is)
    (case k_p_check_fade_ => k_is)
    (case a_m_Machine_init => k_is)
    (case l_m_Machine_init => k_is)
    (case c_m_Machine_init_ => k_is)
    (case k_m_Machine_init_ => k_is)
    (case a_m_Machine_eq => k_is)
    (case l_m_Machine_eq => k_is)
    (case c_m_Machine_eq_ => k_is)
    (case k_m_Machine_eq_ => k_is)
    (case a_m_Machine_len => k_is)
    (case l_m_Machine_len => k_is)
    (case c_m_Machine_len_ => k_is)
    (case k_m_Machine_len_ => k_is)
    (case a_p_is_room => k_is)
    (case l_p_is_room => k_is)
    (case c_p_is_room_ => k_is)
    (case k_p_is_room_ => k_is)
    (case a_p_are_weights => k_is)
    (case l_p_are_weights => k_is)
    (case c_p_are_weights_ => k_is)
    (case k_p_are_weights_ => k_is)
    (case a_p_is_step => k_is)
    (case l_p_is_step => k_is)
    (case c_p_is_step_ => k_is)
    (case k_p_is_step_ => k_is)
    (case a_p_are_steps => k_is)
    (case l_p_are_steps => k_is)
    (case c_p_are_steps_ => k_is)
    (case k_p_are_steps_ => k_is)
    (case a_p_lowest => k_is)
    (case l_p_lowest => k_is)
    (case c_p_lowest_ => k_is)
    (case k_p_lowest_ => k_is)
    (case a_p_doors_of => k_is)
    (case l_p_doors_of => k_is)
    (case c_p_doors_of_ => k_is)
    (case k_p_doors_of_ => k_is)
    (case a_p_worths => k_is)
    (case l_p_worths => k_is)
    (case c_p_worths_ => k_is)
    (case k_p_worths_ => k_is)
    (case a_p_worth => k_is)
    (case l_p_worth => k_is)
    (case c_p_worth_ => k_is)
    (case k_p_worth_ => k_is)
    (case a_l_well => k_is)
    (case l_l_well => k_is)
    (case c_l_well_ => k_is)
    (case k_l_well_ => k_is)
    (case a_l_draw => k_is)
    (case l_l_draw => k_is)
    (case c_l_draw_ => k_is)
    (case k_l_draw_ => k_is)
    (case a_l_one => k_is)
    (case l_l_one => k_is)
    (case c_l_one_ => k_is)
    (case k_l_one_ => k_is)
    (case a_l_names => k_is)
    (case l_l_names => k_is)
    (case c_l_names_ => k_is)
    (case k_l_names_ => k_is)
    (case a_l_weights => k_is)
    (case l_l_weights => k_is)
    (case c_l_weights_ => k_is)
    (case k_l_weights_ => k_is)
    (case a_l_machine => k_is)
    (case l_l_machine => k_is)
    (case c_l_machine_ => k_is)
    (case k_l_machine_ => k_is)
    (case a_l_fade => k_is)
    (case l_l_fade => k_is)
    (case c_l_fade_ => k_is)
    (case k_l_fade_ => k_is)
    (case a_l_low => k_is)
    (case l_l_low => k_is)
    (case c_l_low_ => k_is)
    (case k_l_low_ => k_is)
    (case a_l_less => k_is)
    (case l_l_less => k_is)
    (case c_l_less_ => k_is)
    (case k_l_less_ => k_is)
    (case a_l_minus => k_is)
    (case l_l_minus => k_is)
    (case c_l_minus_ => k_is)
    (case k_l_minus_ => k_is)
    (case a_l_share => k_is)
    (case l_l_share => k_is)
    (case c_l_share_ => k_is)
    (case k_l_share_ => k_is)
    (case a_l_row => k_is)
    (case l_l_row => k_is)
    (case c_l_row_ => k_is)
    (case k_l_row_ => k_is)
    (case a_l_rows => k_is)
    (case l_l_rows => k_is)
    (case c_l_rows_ => k_is)
    (case k_l_rows_ => k_is)
    (case a_l_book => k_is)
    (case l_l_book => k_is)
    (case c_l_book_ => k_is)
    (case k_l_book_ => k_is)
    (case a_l_onward => k_is)
    (case l_l_onward => k_is)
    (case c_l_onward_ => k_is)
    (case k_l_onward_ => k_is)
    (case a_l_on => k_is)
    (case l_l_on => k_is)
    (case c_l_on_ => k_is)
    (case k_l_on_ => k_is)
    (case a_l_worths_of => k_is)
    (case l_l_worths_of => k_is)
    (case c_l_worths_of_ => k_is)
    (case k_l_worths_of_ => k_is)
    (case a_l_worths => k_is)
    (case l_l_worths => k_is)
    (case c_l_worths_ => k_is)
    (case k_l_worths_ => k_is)
    (case a_l_doubled => k_is)
    (case l_l_doubled => k_is)
    (case c_l_doubled_ => k_is)
    (case k_l_doubled_ => k_is)
    (case a_l_told => k_is)
    (case l_l_told => k_is)
    (case c_l_told_ => k_is)
    (case k_l_told_ => k_is)
    (case a_l_heads => k_is)
    (case l_l_heads => k_is)
    (case c_l_heads_ => k_is)
    (case k_l_heads_ => k_is)
    (case a_law => k_is)
    (case l_law => k_is)
    (case c_law_ => k_is)
    (case k_law_ => k_is)
    (case pg_Share => k_is)
    (case hd_Share => k_is)
    (case po_Share => k_is)
    (case sa_Share => k_is)
    (case mk_Share => k_is)
    (case kc_Share => k_is)
    (case if_Share => k_is)
    (case ha_Share => k_is)
    (case hn_Share => k_is)
    (case ht_Share => k_is)
    (case hm_Share => k_is)
    (case n_Share_top => k_is)
    (case n_Share_bottom => k_is)
    (case i_m_Share_eq => k_is)
    (case i_m_Share_str => k_is)
    (case nn_Share => k_is)
    (case nf_Share_int => k_is)
    (case nf_Share_str => k_is)
    (case nf_Share_NoneType => k_is)
    (case nf_Share_list => k_is)
    (case nf_Share_tuple => k_is)
    (case nf_Share_dict => k_is)
    (case nf_Share_bool => k_is)
    (case ko_Share => kit_is)
    (case ko_Share_int => kit_is)
    (case ko_Share_str => kit_is)
    (case ko_Share_NoneType => kit_is)
    (case ko_Share_list => kit_is)
    (case ko_Share_tuple => kit_is)
    (case ko_Share_dict => kit_is)
    (case ko_Share_bool => kit_is)
    (case pg_Machine => k_is)
    (case hd_Machine => k_is)
    (case po_Machine => k_is)
    (case sa_Machine => k_is)
    (case mk_Machine => k_is)
    (case kc_Machine => k_is)
    (case if_Machine => k_is)
    (case ha_Machine => k_is)
    (case hn_Machine => k_is)
    (case ht_Machine => k_is)
    (case hm_Machine => k_is)
    (case n_Machine_many => k_is)
    (case n_Machine_steps => k_is)
    (case i_m_Machine_eq => k_is)
    (case i_m_Machine_len => k_is)
    (case nn_Machine => k_is)
    (case nf_Machine_int => k_is)
    (case nf_Machine_str => k_is)
    (case nf_Machine_NoneType => k_is)
    (case nf_Machine_list => k_is)
    (case nf_Machine_tuple => k_is)
    (case nf_Machine_dict => k_is)
    (case nf_Machine_bool => k_is)
    (case ko_Machine => kit_is)
    (case ko_Machine_int => kit_is)
    (case ko_Machine_str => kit_is)
    (case ko_Machine_NoneType => kit_is)
    (case ko_Machine_list => kit_is)
    (case ko_Machine_tuple => kit_is)
    (case ko_Machine_dict => kit_is)
    (case ko_Machine_bool => kit_is)
    (case ac_LETTERS => k_is)
    (case ac_LONGEST_NAME => k_is)
    (case ac_PIECE_LENGTH => k_is)
    (case ac_MOST_ROOMS => k_is)
    (case ad_FORMS => k_is)
    (case al_FORMS => k_is)
    (case li_FORMS => exact ⟨⟨_, _, rfl, rfl⟩, ⟨⟨_, _, rfl, rfl⟩, ⟨⟨_, _, rfl, rfl⟩, ⟨⟨_, _, rfl, rfl⟩, ⟨⟨_, _, rfl, rfl⟩, ⟨⟨_, _, rfl, rfl⟩, ⟨⟨_, _, rfl, rfl⟩, trivial⟩⟩⟩⟩⟩⟩⟩)
    (case lo_FORMS => decide +kernel)
    (case dk_FORMS_0 => k_is)
    (case dl_FORMS_0 => k_is)
    (case dk_FORMS_1 => k_is)
    (case dl_FORMS_1 => k_is)
    (case dk_FORMS_2 => k_is)
    (case dl_FORMS_2 => k_is)
    (case dk_FORMS_3 => k_is)
    (case dl_FORMS_3 => k_is)
    (case dk_FORMS_4 => k_is)
    (case dl_FORMS_4 => k_is)
    (case dk_FORMS_5 => k_is)
    (case dl_FORMS_5 => k_is)
    (case dk_FORMS_6 => k_is)
    (case dl_FORMS_6 => k_is)
    (case zz_isinstance => k_is)
    (case zz_int => k_is)
    (case zz_bool => k_is)
    (case zz_all => k_is)
    (case zz_str => k_is)
    (case zz_len => k_is)
    (case zz_divmod => k_is)
    (case zz_abs => k_is)
    (case zz_sum => k_is)
    (case zz_range => k_is)
    (case zz_zip => k_is)
    (case zz_tuple => k_is)
    (case zz_list => k_is)
    (case zz_enumerate => k_is)
    (case zz_max => k_is)
    (case zz_min => k_is)
    (case zz_sorted => k_is)
    (case zz_any => k_is)
