import PyProof.Rows.All
import Wide.All
import OpenK.AllK
import Wide.FinOn
import HandS.ForMost
import HandS.Wide
import HandS.IsInst
import HandS.Defaults
import HandS.OwnEq
import HandS.Zip
import HandS.Style
import HandS.SetFor
import KE.RegKIsAll
import HandS.FStr
import HandS.NoneIn
import HandS.Exc
import HandS.TryOnly
import HandS.ExcOwn
import HandS.WordsExc
import HandS.ExcIs
import HandS.Walk
import HandS.TupSets
import HandS.SetBool
import KE.GoesMore
import HandS.DictComp
import HandS.TupMul
import HandS.Dict
import HandS.TryMany
import HandS.ExcInit
import HandS.ExcField
import KE.KExcLine
import HandS.TupAny
import PySem.Challenge.RW_farbetween_k53_how_deep_books_are
set_option Elab.async false
set_option linter.all false
set_option maxRecDepth 100000
/-! Part A: rules and mathematics that hang on no row. -/
namespace Fb
open PySem PySem.Spec PyProof.Rows L2
/-! ### rules -/
section
variable {X : Cx}
/-- // by any divisor but 0 below 2 ^ 9000 -/
def CDivZ (_ j : Int) : Prop := j ≠ 0 ∧ j.natAbs.log2 < 9000
theorem op_fdivZ : OpR X (binaryOp .FloorDiv) (rI CDivZ fun i j => .int (i.fdiv j)) := opI fun _ _ _ _ _ _ _ hc q => floordiv_int hc.1 q (.inl (PyProof.noPylong_of_log2 hc.2))
def ipC (C : Int → Int → Prop) (f : Int → Int → Int) : TIp := fun x y H Q => ∃ i j, x = .int i ∧ y = .int j ∧ C i j ∧ Q (.int (f i j)) H
theorem ip_mulW : PIp X .Mult (ipC CMulW fun i j => i * j) := by
  intro pins s σ H x y v u Q I r1 r2 h
  obtain ⟨i, j, e1, e2, hc, q⟩ := h
  subst e1; subst e2
  obtain ⟨t, rfl⟩ := r1
  obtain ⟨t', rfl⟩ := r2
  exact imul_int ⟨.int _, H, I.tok _, ⟨_, rfl⟩, q⟩ hc.ok
end
/-! ### the same rules with the written part named (within a comprehension) -/
section
variable {X : Cx} {K : PySem.W.Frag} {e : Expr} {ta : TE} {f : Str} {pos : Pos}
theorem pe_fldK (hK : X.K = K) (he : PE X e ta) (hb : attributeBase e f X.env (eval e X.env) = eval e X.env) : PE X (.Attribute e f pos) (tFld K ta f) := hK ▸ pe_fld he hb
theorem ix_listK (hK : X.K = K) : IxR X (rIxL K) := hK ▸ ix_list
theorem ix_tupK (hK : X.K = K) : IxR X (rIxT K) := hK ▸ ix_tup
theorem sl_listK (hK : X.K = K) : SlR X (rSlL K) := hK ▸ sl_list
theorem call_len_seqK (hK : X.K = K) : CallR X (.builtin "len") (fun xs H Q => ∃ p ys, xs = [.ref p] ∧ (SqL K H p ys ∨ SqT K H p ys) ∧ Q (.int ys.length) H) := hK ▸ call_len_seq
theorem call_isiK (hK : X.K = K) : CallR X (.builtin "isinstance") (rIsi K) := hK ▸ call_isi
end
/-- what isinstance asks of a class -/
structure TyIns (K : PySem.W.Frag) (C : Addr) : Prop where
  ha : PySem.W.findIn K (.ref C) "__class__" = some (some (.builtin "object.__class__"))
  hn : PySem.W.specialIn K (.builtin "object.__class__") "__get__" = some (some (.builtin "getset_descriptor.__get__"))
  htk : PySem.W.takesIn K (.builtin "object.__class__") = some true
  hm : PySem.W.mroIn K C (.type "object") = some true
/-! ### heaps -/
theorem same_upd {H : Hp} {p : Addr} {o : HO} (h : H p = none) : Same H (upd H p o) := fun b x e => by
  rw [upd_ne (ne_of_none e h)]
  exact e
theorem same_upd2 {G H : Hp} {p : Addr} {o : HO} (s : Same G H) (h : H p = none) : Same G (upd H p o) := s.trans (same_upd h)
/-- over a new object that has been stored into once more -/
theorem same_over {G H : Hp} {p : Addr} {o : HO} (s : Same G H) (h : G p = none) : Same G (upd H p o) := fun b x e => by
  rw [upd_ne (ne_of_none e h)]
  exact s _ _ e
theorem sqT_new {K : PySem.W.Frag} {H : Hp} {p : Addr} {xs : List V} : SqT K (upd H p (.tup xs)) p xs := .inl (.inl upd_same)
theorem sqL_new {K : PySem.W.Frag} {H : Hp} {p : Addr} {xs : List V} : SqL K (upd H p (.lst xs)) p xs := .inl (.inl upd_same)
/-- the heap without what stands at a -/
def hid (a : Addr) (H : Hp) : Hp := fun b => if b = a then none else H b
theorem hid_same {a : Addr} {H : Hp} : Same (hid a H) H := fun b o e => by
  unfold hid at e
  by_cases h : b = a
  · rw [if_pos h] at e; cases e
  · rw [if_neg h] at e; exact e
theorem hid_ne {a b : Addr} {H : Hp} (h : b ≠ a) : hid a H b = H b := if_neg h
theorem hid_self {a : Addr} {H : Hp} : hid a H a = none := if_pos rfl
theorem hid_mono {a : Addr} {H H' : Hp} (s : Same H H') : Same (hid a H) (hid a H') := fun b o e => by
  by_cases h : b = a
  · rw [h, hid_self] at e; cases e
  · rw [hid_ne h] at e ⊢; exact s _ _ e
theorem hid_upd {a : Addr} {H : Hp} {o : HO} : hid a (upd H a o) = hid a H := by
  funext b
  by_cases h : b = a
  · rw [h, hid_self, hid_self]
  · rw [hid_ne h, hid_ne h, upd_ne h]
theorem hid_updN {a p : Addr} {H : Hp} {o : HO} (h : p ≠ a) : hid a (upd H p o) = upd (hid a H) p o := by
  funext b
  by_cases hb : b = a
  · rw [hb, hid_self, upd_ne (Ne.symm h), hid_self]
  · rw [hid_ne hb]
    by_cases hp : b = p
    · rw [hp, upd_same, upd_same]
    · rw [upd_ne hp, upd_ne hp, hid_ne hb]
/-! ### shares in the heap -/
theorem tb : ¬ (("top" : Str) = "bottom") := by decide +kernel
def flds (q : Rat) : List (Str × V) := putF "bottom" (.int (q.den : Int)) (putF "top" (.int q.num) [])
theorem flds_top (q : Rat) : (flds q).lookup ("top" : Str) = some (.int q.num) := by
  unfold flds
  rw [lookup_putF, if_neg tb, lookup_putF, if_pos rfl]
theorem flds_bottom (q : Rat) : (flds q).lookup ("bottom" : Str) = some (.int (q.den : Int)) := by
  unfold flds
  rw [lookup_putF, if_pos rfl]
def IsShare (C : Addr) (H : Hp) (v : V) (q : Rat) : Prop := ∃ p dx, v = .ref p ∧ H p = some (.ins C dx (flds q))
theorem IsShare.mono {C : Addr} {H H' : Hp} {v : V} {q : Rat} (h : IsShare C H v q) (s : Same H H') : IsShare C H' v q := by
  obtain ⟨p, dx, e, h⟩ := h
  exact ⟨p, dx, e, s _ _ h⟩
/-! ### the greatest common part, and lowest terms -/
theorem gcd_step (a b : Int) : Int.gcd b (a.fmod b) = Int.gcd a b := by
  have e : a.fmod b = a - b * a.fdiv b := Int.fmod_def a b
  rw [e, Int.gcd_sub_mul_left_right, Int.gcd_comm]
theorem fmod_lt (a b : Int) (h : b ≠ 0) : (a.fmod b).natAbs < b.natAbs := by
  rw [Int.fmod_eq_emod]
  have h1 := Int.emod_nonneg a h
  have h2 := Int.emod_lt a h
  split
  · omega
  · rename_i z
    have h3 : ¬ b ∣ a := fun d => z (.inr d)
    have h4 : a % b ≠ 0 := fun e => h3 (Int.dvd_of_emod_eq_zero e)
    have h5 : ¬ 0 ≤ b := fun d => z (.inl d)
    omega
/-- the divisor that brings t over b to lowest terms, its sign the bottom's -/
def cut (t b : Int) : Int := if b < 0 then -(Int.gcd t b : Int) else (Int.gcd t b : Int)
theorem gcd_pos {t b : Int} (h : b ≠ 0) : 0 < Int.gcd t b := Int.gcd_pos_of_ne_zero_right _ h
theorem cut_ne {t b : Int} (h : b ≠ 0) : cut t b ≠ 0 := by
  have := gcd_pos (t := t) h
  unfold cut
  split <;> omega
theorem cut_abs {t b : Int} : (cut t b).natAbs = Int.gcd t b := by
  unfold cut
  split <;> omega
theorem cut_le {t b : Int} (h : b ≠ 0) : (cut t b).natAbs ≤ b.natAbs := by
  rw [cut_abs]
  exact Nat.le_of_dvd (by omega) (Int.natAbs_dvd_natAbs.mpr (Int.gcd_dvd_right t b))
theorem cut_top {t b : Int} (h : b ≠ 0) : t.fdiv (cut t b) = (Rat.divInt t b).num := by
  have d : (Int.gcd t b : Int) ∣ t := Int.gcd_dvd_left t b
  rw [Rat.num_divInt, Int.gcd_comm b t]
  unfold cut
  by_cases hb : b < 0
  · rw [if_pos hb, Int.sign_eq_neg_one_of_neg hb, Int.fdiv_eq_ediv_of_dvd (Int.neg_dvd.mpr d), Int.ediv_neg, Int.neg_one_mul, Int.neg_ediv_of_dvd d]
  · rw [if_neg hb, Int.sign_eq_one_of_pos (by omega), Int.one_mul, Int.fdiv_eq_ediv_of_dvd d]
theorem cut_bottom {t b : Int} (h : b ≠ 0) : b.fdiv (cut t b) = ((Rat.divInt t b).den : Int) := by
  have d : (Int.gcd t b : Int) ∣ b := Int.gcd_dvd_right t b
  rw [Rat.den_divInt, if_neg h, Int.gcd_comm b t]
  unfold cut
  rw [Int.natCast_ediv]
  by_cases hb : b < 0
  · rw [if_pos hb, Int.fdiv_eq_ediv_of_dvd (Int.neg_dvd.mpr d), Int.ediv_neg, ← Int.neg_ediv_of_dvd d]
    congr 1
    omega
  · rw [if_neg hb, Int.fdiv_eq_ediv_of_dvd d]
    congr 1
    omega
end Fb

/-! Part A2: shares as rational numbers, their bounds; sums over a common bottom; lists that comprehensions make. -/
namespace Fb
open PySem PySem.Spec PyProof.Rows L2
/-! ### bounds -/
structure Bd (n : Nat) (q : Rat) : Prop where
  num : q.num.natAbs < 2 ^ n
  den : q.den < 2 ^ n
theorem Bd.mono {n m : Nat} {q : Rat} (h : Bd n q) (l : n ≤ m) : Bd m q :=
  ⟨Nat.lt_of_lt_of_le h.num (Nat.pow_le_pow_right (by decide) l), Nat.lt_of_lt_of_le h.den (Nat.pow_le_pow_right (by decide) l)⟩
theorem Bd.pos {n : Nat} {q : Rat} (h : Bd n q) : 0 < n := by
  have := h.den
  have := q.den_pos
  cases n with
  | zero => simp at *; omega
  | succ n => omega
theorem divInt_num_le {t b : Int} (h : b ≠ 0) : (Rat.divInt t b).num.natAbs ≤ t.natAbs := by
  have d : (cut t b) ∣ t := by
    have d := Int.gcd_dvd_left t b
    unfold cut
    split
    · exact Int.neg_dvd.mpr d
    · exact d
  have e : (Rat.divInt t b).num * cut t b = t := by
    rw [← cut_top h, Int.fdiv_eq_ediv_of_dvd d, Int.ediv_mul_cancel d]
  have e2 := congrArg Int.natAbs e
  rw [Int.natAbs_mul] at e2
  have := cut_ne (t := t) h
  rw [← e2]
  exact Nat.le_mul_of_pos_right _ (by omega)
theorem divInt_den_le {t b : Int} (h : b ≠ 0) : (Rat.divInt t b).den ≤ b.natAbs := by
  rw [Rat.den_divInt, if_neg h]
  exact Nat.div_le_self _ _
theorem Bd.divInt {t b : Int} {n : Nat} (h : b ≠ 0) (ht : t.natAbs < 2 ^ n) (hb : b.natAbs < 2 ^ n) : Bd n (Rat.divInt t b) :=
  ⟨Nat.lt_of_le_of_lt (divInt_num_le h) ht, Nat.lt_of_le_of_lt (divInt_den_le h) hb⟩
theorem den_ne (q : Rat) : (q.den : Int) ≠ 0 := by
  have := q.den_pos
  omega
theorem den_abs {n : Nat} {q : Rat} (h : Bd n q) : (q.den : Int).natAbs < 2 ^ n := by
  have := h.den
  omega
theorem dens_ne (x y : Rat) : (x.den : Int) * (y.den : Int) ≠ 0 := Int.mul_ne_zero (den_ne x) (den_ne y)
theorem rat_add (x y : Rat) : Rat.divInt (x.num * (y.den : Int) + y.num * (x.den : Int)) ((x.den : Int) * (y.den : Int)) = x + y := by
  rw [Rat.add_def', ← Int.natCast_mul, Rat.divInt_ofNat]
theorem rat_sub (x y : Rat) : Rat.divInt (x.num * (y.den : Int) - y.num * (x.den : Int)) ((x.den : Int) * (y.den : Int)) = x - y := by
  rw [Rat.sub_def', ← Int.natCast_mul, Rat.divInt_ofNat]
theorem rat_mul (x y : Rat) : Rat.divInt (x.num * y.num) ((x.den : Int) * (y.den : Int)) = x * y := by
  rw [Rat.mul_def', ← Int.natCast_mul, Rat.divInt_ofNat]
theorem rat_div (x y : Rat) : Rat.divInt (x.num * (y.den : Int)) ((x.den : Int) * y.num) = x / y := by
  rw [Rat.div_def, Rat.inv_def, ← Rat.divInt_mul_divInt, Rat.num_divInt_den]
theorem sum_lt {a b : Int} {n : Nat} (ha : a.natAbs < 2 ^ n) (hb : b.natAbs < 2 ^ n) : (a + b).natAbs < 2 ^ (n + 1) := by
  rw [Nat.pow_succ]
  omega
theorem sub_lt {a b : Int} {n : Nat} (ha : a.natAbs < 2 ^ n) (hb : b.natAbs < 2 ^ n) : (a - b).natAbs < 2 ^ (n + 1) := by
  rw [Nat.pow_succ]
  omega
theorem up {a : Int} {n m : Nat} (ha : a.natAbs < 2 ^ n) (h : n ≤ m) : a.natAbs < 2 ^ m := Nat.lt_of_lt_of_le ha (Nat.pow_le_pow_right (by decide) h)
theorem Bd.add {n m : Nat} {x y : Rat} (hx : Bd n x) (hy : Bd m y) : Bd (n + m + 1) (x + y) := by
  rw [← rat_add]
  refine .divInt (dens_ne x y) (sum_lt (wide_lt hx.num (den_abs hy)) ?_) (up (wide_lt (den_abs hx) (den_abs hy)) (by omega))
  have := wide_lt hy.num (den_abs hx)
  rw [Nat.add_comm] at this
  exact this
theorem Bd.sub {n m : Nat} {x y : Rat} (hx : Bd n x) (hy : Bd m y) : Bd (n + m + 1) (x - y) := by
  rw [← rat_sub]
  refine .divInt (dens_ne x y) (sub_lt (wide_lt hx.num (den_abs hy)) ?_) (up (wide_lt (den_abs hx) (den_abs hy)) (by omega))
  have := wide_lt hy.num (den_abs hx)
  rw [Nat.add_comm] at this
  exact this
theorem Bd.mul {n m : Nat} {x y : Rat} (hx : Bd n x) (hy : Bd m y) : Bd (n + m) (x * y) := by
  rw [← rat_mul]
  exact .divInt (dens_ne x y) (wide_lt hx.num hy.num) (wide_lt (den_abs hx) (den_abs hy))
theorem Bd.div {n m : Nat} {x y : Rat} (hx : Bd n x) (hy : Bd m y) (h0 : y ≠ 0) : Bd (n + m) (x / y) := by
  rw [← rat_div]
  exact .divInt (Int.mul_ne_zero (den_ne x) (fun z => h0 (Rat.num_eq_zero.mp z))) (wide_lt hx.num (den_abs hy)) (wide_lt (den_abs hx) hy.num)
theorem log_of {a : Int} {n : Nat} (h0 : 0 < n) (h : a.natAbs < 2 ^ n) (h9 : n ≤ 9000) : a.natAbs.log2 < 9000 := Nat.lt_of_lt_of_le (PySem.Flt.log2_lt_of h0 h) h9
/-! ### sums over a common bottom -/
def lcmOn : Nat → List Rat → Nat
  | L, [] => L
  | L, q :: r => lcmOn (L * (q.den / Nat.gcd L q.den)) r
theorem lcmOn_pos : ∀ (qs : List Rat) (L : Nat), 0 < L → 0 < lcmOn L qs
  | [], _, h => h
  | q :: r, L, h => by
    refine lcmOn_pos r _ (Nat.mul_pos h (Nat.div_pos (Nat.le_of_dvd q.den_pos (Nat.gcd_dvd_right _ _)) (Nat.gcd_pos_of_pos_left _ h)))
theorem lcmOn_dvd : ∀ (qs : List Rat) (L : Nat), L ∣ lcmOn L qs
  | [], L => Nat.dvd_refl L
  | _ :: r, L => Nat.dvd_trans (Nat.dvd_mul_right L _) (lcmOn_dvd r _)
theorem den_dvd_step (L d : Nat) : d ∣ L * (d / Nat.gcd L d) := by
  rw [← Nat.mul_div_assoc _ (Nat.gcd_dvd_right L d)]
  exact Nat.dvd_lcm_right L d
theorem den_dvd_lcm : ∀ (qs : List Rat) (L : Nat) (q : Rat), q ∈ qs → q.den ∣ lcmOn L qs
  | x :: r, L, q, h => by
    rcases List.mem_cons.mp h with e | h
    · subst e
      exact Nat.dvd_trans (den_dvd_step L q.den) (lcmOn_dvd r _)
    · exact den_dvd_lcm r _ q h
theorem lcmOn_lt : ∀ (qs : List Rat) (L n a : Nat), (∀ q ∈ qs, q.den < 2 ^ n) → L < 2 ^ a → lcmOn L qs < 2 ^ (a + n * qs.length)
  | [], L, n, a, _, h => by simpa [lcmOn] using h
  | q :: r, L, n, a, hq, h => by
    have h1 : L * (q.den / Nat.gcd L q.den) < 2 ^ (a + n) := by
      rw [Nat.pow_add]
      exact Nat.lt_of_le_of_lt (Nat.mul_le_mul_left _ (Nat.div_le_self _ _)) (Nat.mul_lt_mul'' h (hq q List.mem_cons_self))
    have := lcmOn_lt r _ n (a + n) (fun x hx => hq x (List.mem_cons_of_mem _ hx)) h1
    rw [List.length_cons, Nat.mul_succ]
    rw [show a + (n * r.length + n) = a + n + n * r.length by omega]
    exact this
def rsum : List Rat → Rat
  | [] => 0
  | q :: r => q + rsum r
theorem rsum_append : ∀ (a b : List Rat), rsum (a ++ b) = rsum a + rsum b
  | [], b => (Rat.zero_add _).symm
  | q :: r, b => by
    show q + rsum (r ++ b) = q + rsum r + rsum b
    rw [rsum_append r b, Rat.add_assoc]
theorem divInt_add_same (a b d : Int) : Rat.divInt (a + b) d = Rat.divInt a d + Rat.divInt b d := by
  by_cases h : d = 0
  · subst h
    simp [Rat.zero_add]
  · rw [Rat.divInt_add_divInt _ _ h h, ← Int.add_mul, Rat.divInt_mul_right h]
def topsOf (L : Nat) (qs : List Rat) : List Int := qs.map fun q => q.num * ((L / q.den : Nat) : Int)
theorem tops_one {L : Nat} {q : Rat} (h0 : 0 < L) (hd : q.den ∣ L) : Rat.divInt (q.num * ((L / q.den : Nat) : Int)) (L : Int) = q := by
  obtain ⟨k, rfl⟩ := hd
  have hk : k ≠ 0 := fun z => by
    subst z
    simp at h0
  rw [Nat.mul_div_cancel_left _ q.den_pos, Int.natCast_mul, Rat.divInt_mul_right (by omega), Rat.num_divInt_den]
theorem tops_sum {L : Nat} (h0 : 0 < L) : ∀ (qs : List Rat), (∀ q ∈ qs, q.den ∣ L) → Rat.divInt (topsOf L qs).sum (L : Int) = rsum qs
  | [], _ => by simp [topsOf, rsum]
  | q :: r, h => by
    show Rat.divInt (q.num * ((L / q.den : Nat) : Int) + (topsOf L r).sum) (L : Int) = q + rsum r
    rw [divInt_add_same, tops_one h0 (h q List.mem_cons_self), tops_sum h0 r fun x hx => h x (List.mem_cons_of_mem _ hx)]
/-- n bounds each share, N their number -/
structure Few (n N : Nat) (qs : List Rat) : Prop where
  bd : ∀ q ∈ qs, Bd n q
  len : qs.length ≤ N
  small : n * N ≤ 8000
  most : N ≤ 999
  pos : 0 < n
/-! ### values that stand for a list of things -/
def AllAre {α : Type} (R : V → α → Prop) (vs : List V) (xs : List α) : Prop := vs.length = xs.length ∧ ∀ (i : Nat) (v : V) (x : α), vs[i]? = some v → xs[i]? = some x → R v x
theorem AllAre.nil {α : Type} {R : V → α → Prop} : AllAre R [] [] := ⟨rfl, fun i v x h => by simp at h⟩
theorem AllAre.at {α : Type} {R : V → α → Prop} {vs : List V} {xs : List α} {i : Nat} {v : V} (h : AllAre R vs xs) (e : vs[i]? = some v) : ∃ x, xs[i]? = some x ∧ R v x := by
  have hi : i < xs.length := by
    have := (List.getElem?_eq_some_iff.mp e).1
    rw [← h.1]
    exact this
  exact ⟨xs[i], List.getElem?_eq_getElem hi, h.2 i v _ e (List.getElem?_eq_getElem hi)⟩
theorem AllAre.imp {α : Type} {R R' : V → α → Prop} {vs : List V} {xs : List α} (h : AllAre R vs xs) (f : ∀ v x, R v x → R' v x) : AllAre R' vs xs := ⟨h.1, fun i v x a b => f _ _ (h.2 i v x a b)⟩
theorem AllAre.cons {α : Type} {R : V → α → Prop} {v : V} {x : α} {vs : List V} {xs : List α} (r : R v x) (h : AllAre R vs xs) : AllAre R (v :: vs) (x :: xs) := by
  refine ⟨by simp [h.1], fun i a b h1 h2 => ?_⟩
  cases i with
  | zero =>
    simp at h1 h2
    subst h1; subst h2
    exact r
  | succ i =>
    simp at h1 h2
    exact h.2 i a b h1 h2
theorem AllAre.append {α : Type} {R : V → α → Prop} : ∀ {vs us : List V} {xs ys : List α}, AllAre R vs xs → AllAre R us ys → AllAre R (vs ++ us) (xs ++ ys)
  | [], us, [], ys, _, h => h
  | v :: vs, us, x :: xs, ys, h, h' => by
    have t : AllAre R vs xs := ⟨by simpa using h.1, fun i a b h1 h2 => h.2 (i + 1) a b (by simpa using h1) (by simpa using h2)⟩
    exact .cons (h.2 0 v x rfl rfl) (t.append h')
  | [], _, _ :: _, _, h, _ => by simp [AllAre] at h
  | _ :: _, _, [], _, h, _ => by simp [AllAre] at h
theorem AllAre.snoc {α : Type} {R : V → α → Prop} {v : V} {x : α} {vs : List V} {xs : List α} (h : AllAre R vs xs) (r : R v x) : AllAre R (vs ++ [v]) (xs ++ [x]) := h.append (.cons r .nil)
theorem AllAre.take {α : Type} {R : V → α → Prop} {vs : List V} {xs : List α} (n : Nat) (h : AllAre R vs xs) : AllAre R (vs.take n) (xs.take n) := by
  refine ⟨by simp [h.1], fun i a b h1 h2 => ?_⟩
  rw [List.getElem?_take] at h1 h2
  split at h1
  · rw [if_pos (by assumption)] at h2
    exact h.2 i a b h1 h2
  · cases h1
theorem AllAre.drop {α : Type} {R : V → α → Prop} {vs : List V} {xs : List α} (n : Nat) (h : AllAre R vs xs) : AllAre R (vs.drop n) (xs.drop n) := by
  refine ⟨by simp [h.1], fun i a b h1 h2 => ?_⟩
  rw [List.getElem?_drop] at h1 h2
  exact h.2 _ a b h1 h2
theorem AllAre.reverse {α : Type} {R : V → α → Prop} {vs : List V} {xs : List α} (h : AllAre R vs xs) : AllAre R vs.reverse xs.reverse := by
  refine ⟨by simp [h.1], fun i a b h1 h2 => ?_⟩
  have l1 := (List.getElem?_eq_some_iff.mp h1).1
  have l2 := (List.getElem?_eq_some_iff.mp h2).1
  rw [List.length_reverse] at l1 l2
  rw [List.getElem?_reverse l1] at h1
  rw [List.getElem?_reverse l2, ← h.1] at h2
  exact h.2 _ a b h1 h2
/-- a list of shares -/
def IsShares (C : Addr) (H : Hp) (v : V) (qs : List Rat) : Prop := ∃ p vs, v = .ref p ∧ H p = some (.lst vs) ∧ AllAre (IsShare C H) vs qs
theorem IsShares.mono {C : Addr} {H H' : Hp} {v : V} {qs : List Rat} (h : IsShares C H v qs) (s : Same H H') : IsShares C H' v qs := by
  obtain ⟨p, vs, e, h, a⟩ := h
  exact ⟨p, vs, e, s _ _ h, a.imp fun _ _ r => r.mono s⟩
/-! ### comprehensions that only make -/
/-- [e for x in xs]: what is told of the i-th item is told of it to the end -/
theorem lc_all {K : PySem.W.Frag} {a : Addr} {xs : List V} {g : TG} {te : TE} {vs : List Nat} {σ : L2.St} {H1 : Hp} {D : Addr} {Qd : Hp → Prop} (R : Nat → V → Hp → Prop) (mono : ∀ i v H H', Same H H' → R i v H → R i v H')
    (hD : H1 D = none) (hS : SqL K H1 a xs) (hz : xs.length ≤ 1000)
    (hs : ∀ i x H (k : V → Hp → Prop), xs[i]? = some x → Same H1 (hid D H) → (∃ ys, H D = some (.lst ys)) → (∀ y H4, Same H H4 → R i y (hid D H4) → k y H4) → g x (wipe σ vs) H fun σ2 H2 => wipe σ2 vs = wipe σ vs ∧ te σ2 H2 k)
    (hd : ∀ H ys, Same H1 (hid D H) → H D = some (.lst ys) → ys.length = xs.length → (∀ i y, ys[i]? = some y → R i y (hid D H)) → Qd H) :
    ∃ W : Nat → Nat → Hp → Prop, (∃ m, W 0 m (upd H1 D (.lst []))) ∧ ∀ i m H, W i m H →
      ((Itl K a).stop i H ∧ Qd H) ∨ ((Itl K a).go i H ∧ ∃ Nx : Hp → Prop, (∀ H', Nx H' → ∃ m', m' < m ∧ W (i + 1) m' H') ∧ ∀ x H', (Itl K a).yld i H x H' → g x (wipe σ vs) H' fun σ2 H2 => wipe σ2 vs = wipe σ vs ∧ tYes σ2 H2 fun b H3 =>
        if b = true then te σ2 H3 fun y H4 => ∃ acc, H4 D = some (.lst acc) ∧ acc.length < sizeLine ∧ Nx (upd H4 D (.lst (acc ++ [y]))) else Nx H3) := by
  refine lc_list (xs := xs) (fun i H => ∃ ys, Same H1 (hid D H) ∧ H D = some (.lst ys) ∧ ys.length = i ∧ ∀ j y, ys[j]? = some y → R j y (hid D H)) ⟨[], ?_, upd_same, rfl, fun j y h => by simp at h⟩ (fun i H _ h => ?_) (fun i x H hx h => ?_) (fun H h => ?_)
  · intro b o e
    rw [hid_ne (ne_of_none e hD), upd_ne (ne_of_none e hD)]
    exact e
  · obtain ⟨ys, s, _⟩ := h
    exact (s.trans hid_same).seq hS
  · obtain ⟨ys, s, e, l, r⟩ := h
    have hi : i < xs.length := (List.getElem?_eq_some_iff.mp hx).1
    refine hs i x H (fun y H4 => ∃ acc, H4 D = some (.lst acc) ∧ acc.length < sizeLine ∧ ∃ ys, Same H1 (hid D (upd H4 D (.lst (acc ++ [y])))) ∧ (upd H4 D (.lst (acc ++ [y]))) D = some (.lst ys) ∧ ys.length = i + 1 ∧ ∀ j y', ys[j]? = some y' → R j y' (hid D (upd H4 D (.lst (acc ++ [y]))))) hx s ⟨_, e⟩ fun y H4 s4 ry => ?_
    refine ⟨ys, s4 _ _ e, small1000 (by omega), ys ++ [y], ?_, upd_same, by simp [l], fun j y' h => ?_⟩
    · rw [hid_upd]
      exact s.trans (hid_mono s4)
    · rw [hid_upd]
      by_cases hj : j < ys.length
      · rw [List.getElem?_append_left hj] at h
        exact mono _ _ _ _ (hid_mono s4) (r j y' h)
      · rw [List.getElem?_append_right (by omega)] at h
        have hj2 : j - ys.length = 0 := by
          have := (List.getElem?_eq_some_iff.mp h).1
          simp at this
          omega
        rw [hj2] at h
        simp at h
        subst h
        have : j = i := by omega
        rw [this]
        exact ry
  · obtain ⟨ys, s, e, l, r⟩ := h
    exact hd H ys s e l r
end Fb

/-! Part A3: the well of draws, pairs, equality of pairs. -/
namespace Fb
open PySem PySem.Spec PyProof.Rows L2
/-- the well at a, good for n draws more -/
def WellAt (H : Hp) (a : Addr) (n : Nat) : Prop := ∃ w0 w1 w2 : Int, H a = some (.lst [.int w0, .int w1, .int w2]) ∧ 0 ≤ w1 ∧ w1 < 2147483647 ∧ 0 ≤ w2 ∧ w2 + (n : Int) ≤ 1099511627776
theorem WellAt.mono {H : Hp} {a : Addr} {n m : Nat} (h : WellAt H a n) (l : m ≤ n) : WellAt H a m := by
  obtain ⟨w0, w1, w2, e, a1, a2, a3, a4⟩ := h
  exact ⟨w0, w1, w2, e, a1, a2, a3, by omega⟩
theorem WellAt.same {H H' : Hp} {a : Addr} {n : Nat} (h : WellAt H a n) (s : Same H H') : WellAt H' a n := by
  obtain ⟨w0, w1, w2, e, r⟩ := h
  exact ⟨w0, w1, w2, s _ _ e, r⟩
theorem WellAt.ne {H : Hp} {a p : Addr} {n : Nat} (h : WellAt H a n) (e : H p = none) : p ≠ a := by
  obtain ⟨w0, w1, w2, ea, _⟩ := h
  intro z
  rw [z, ea] at e
  cases e
/-- what the seven primes are -/
theorem primes7 {k : Int} (h0 : 0 ≤ k) (h7 : k < 7) : ∃ p : Int, atI [V.int 2147483647, V.int 2147483629, V.int 2147483587, V.int 2147483579, V.int 2147483563, V.int 2147483549, V.int 2147483543] k = some (.int p) ∧ 0 < p ∧ p < 2147483648 := by
  have : k = 0 ∨ k = 1 ∨ k = 2 ∨ k = 3 ∨ k = 4 ∨ k = 5 ∨ k = 6 := by omega
  rcases this with e | e | e | e | e | e | e <;> subst e <;> exact ⟨_, rfl, by decide, by decide⟩
theorem atI_get {α : Type} {xs : List α} {i : Int} (h0 : 0 ≤ i) (h : i < xs.length) : ∃ x, atI xs i = some x ∧ xs[i.toNat]? = some x := by
  have hl : i.toNat < xs.length := by omega
  have g := List.getElem?_eq_getElem hl
  have e : ((i.toNat : Nat) : Int) = i := by omega
  have q := atI_nat g
  rw [e] at q
  exact ⟨_, q, g⟩
/-- a share's two numbers, as a tuple -/
def IsTup2 (H : Hp) (v : V) (t b : Int) : Prop := ∃ p, v = .ref p ∧ H p = some (.tup [.int t, .int b])
theorem IsTup2.mono {H H' : Hp} {v : V} {t b : Int} (h : IsTup2 H v t b) (s : Same H H') : IsTup2 H' v t b := by
  obtain ⟨p, e, h⟩ := h
  exact ⟨p, e, s _ _ h⟩
theorem IsTup2.dp {K : PySem.W.Frag} {H : Hp} {v : V} {t b : Int} (h : IsTup2 H v t b) : Dp K H v (.tuple [.int t, .int b]) := by
  obtain ⟨p, rfl, h⟩ := h
  exact .tup (.inl (.inl h)) (.cons (.int _) (.cons (.int _) .nil))
theorem eqv_tup2 (a b c d : Int) : PyData.eqv (.tuple [.int a, .int b]) (.tuple [.int c, .int d]) = (a == c && b == d) := by
  simp [PyData.eqv, PyData.eqvAll]
theorem shaped2 (a b : Int) : SeqAt.shaped (.tuple [.int a, .int b]) = true := rfl
/-- objects of other kinds than the well's are not hidden with it -/
theorem hid_keep {H : Hp} {a p : Addr} {n : Nat} {o : HO} (w : WellAt H a n) (h : H p = some o) (ho : ∀ xs, o ≠ .lst xs) : hid a H p = some o := by
  obtain ⟨w0, w1, w2, e, _⟩ := w
  rw [hid_ne]
  · exact h
  · intro z
    rw [z, e] at h
    cases h
    exact ho _ rfl
theorem IsTup2.hid {H : Hp} {a : Addr} {n : Nat} {v : V} {t b : Int} (w : WellAt H a n) (h : IsTup2 H v t b) : IsTup2 (hid a H) v t b := by
  obtain ⟨p, e, h⟩ := h
  exact ⟨p, e, hid_keep w h (fun _ => nofun)⟩
theorem IsShare.hid {C : Addr} {H : Hp} {a : Addr} {n : Nat} {v : V} {q : Rat} (w : WellAt H a n) (h : IsShare C H v q) : IsShare C (hid a H) v q := by
  obtain ⟨p, dx, e, h⟩ := h
  exact ⟨p, dx, e, hid_keep w h (fun _ => nofun)⟩
theorem pow_small {i : Int} (h0 : 0 ≤ i) (h : i < 18446744073709551616) : CPow i 5 := ⟨by decide, by decide, by omega⟩
theorem log_pos {m : Int} (h0 : 0 < m) {n : Nat} (hn : 0 < n) (h9 : n ≤ 9000) (h : m < 2 ^ n) : CDivW 0 m := by
  refine ⟨h0, log_of hn ?_ h9⟩
  have : ((2 ^ n : Nat) : Int) = 2 ^ n := by simp
  omega
end Fb
namespace Fb
open PySem PySem.Spec PyProof.Rows L2
/-- a new object beside the well -/
theorem well_new {H : Hp} {a p : Addr} {n : Nat} {o : HO} (w : WellAt H a n) (np : H p = none) : WellAt (upd H p o) a n ∧ Same (hid a H) (hid a (upd H p o)) :=
  ⟨w.same (same_upd np), hid_mono (same_upd np)⟩
theorem sqL_hid {K : PySem.W.Frag} {H : Hp} {a p : Addr} {n : Nat} {xs : List V} (w : WellAt H a n) (np : H p = none) : SqL K (hid a (upd H p (.lst xs))) p xs := by
  rw [hid_updN (w.ne np)]
  exact sqL_new
theorem tup_hid {H : Hp} {a p : Addr} {n : Nat} {t b : Int} (w : WellAt H a n) (np : H p = none) : IsTup2 (hid a (upd H p (.tup [.int t, .int b]))) (.ref p) t b := by
  refine ⟨p, rfl, ?_⟩
  rw [hid_updN (w.ne np), upd_same]
theorem mem5 {α : Type} {a b c d e x : α} {i : Nat} (h : [a, b, c, d, e][i]? = some x) : x = a ∨ x = b ∨ x = c ∨ x = d ∨ x = e := by
  have := List.mem_of_getElem? h
  simpa using this
theorem mem4 {α : Type} {a b c d x : α} {i : Nat} (h : [a, b, c, d][i]? = some x) : x = a ∨ x = b ∨ x = c ∨ x = d := by
  have := List.mem_of_getElem? h
  simpa using this
theorem mem3 {α : Type} {a b c x : α} {i : Nat} (h : [a, b, c][i]? = some x) : x = a ∨ x = b ∨ x = c := by
  have := List.mem_of_getElem? h
  simpa using this
theorem divInt_self (q : Rat) : Rat.divInt q.num (q.den : Int) = q := Rat.num_divInt_den q
end Fb

/-! Part A4: comprehensions beside the well; the law's loop over its numbers. -/
namespace Fb
open PySem PySem.Spec PyProof.Rows L2
theorem hid2_upd {a D : Addr} {H : Hp} {o : HO} (h : D ≠ a) : hid D (hid a (upd H D o)) = hid D (hid a H) := by
  rw [hid_updN h, hid_upd]
theorem hid2_ne {a D : Addr} {H : Hp} (h : D ≠ a) : hid a H D = H D := hid_ne h
theorem WellAt.upd {H : Hp} {a D : Addr} {n : Nat} {o : HO} (w : WellAt H a n) (h : D ≠ a) : WellAt (L2.upd H D o) a n := by
  obtain ⟨w0, w1, w2, e, r⟩ := w
  exact ⟨w0, w1, w2, by rw [upd_ne h.symm]; exact e, r⟩
/-- [e for x in range(..)], each turn at most c draws: what is told of each item stays -/
theorem lc_wellR {lo : Int} {n : Nat} {g : TG} {te : TE} {vs : List Nat} {σ : L2.St} {H1 : Hp} {D a : Addr} {Qd : Hp → Prop} (R : V → Hp → Prop) (mono : ∀ v H H', Same H H' → R v H → R v H') (c f : Nat)
    (hD : H1 D = none) (hw : WellAt H1 a (f + c * n)) (hn : n ≤ 1000)
    (hs : ∀ i H m (k : V → Hp → Prop), i < n → WellAt H a (m + c) → Same (hid a H1) (hid D (hid a H)) → (∃ ys, H D = some (.lst ys)) → (∀ y H4, Same (hid a H) (hid a H4) → WellAt H4 a m → R y (hid D (hid a H4)) → k y H4) →
      g (.int (lo + i)) (wipe σ vs) H fun σ2 H2 => wipe σ2 vs = wipe σ vs ∧ te σ2 H2 k)
    (hd : ∀ H ys, Same (hid a H1) (hid D (hid a H)) → WellAt H a f → H D = some (.lst ys) → ys.length = n → (∀ y ∈ ys, R y (hid D (hid a H))) → Qd H) :
    ∃ W : Nat → Nat → Hp → Prop, (∃ m, W 0 m (upd H1 D (.lst []))) ∧ ∀ i m H, W i m H →
      ((Itr lo n).stop i H ∧ Qd H) ∨ ((Itr lo n).go i H ∧ ∃ Nx : Hp → Prop, (∀ H', Nx H' → ∃ m', m' < m ∧ W (i + 1) m' H') ∧ ∀ x H', (Itr lo n).yld i H x H' → g x (wipe σ vs) H' fun σ2 H2 => wipe σ2 vs = wipe σ vs ∧ tYes σ2 H2 fun b H3 =>
        if b = true then te σ2 H3 fun y H4 => ∃ acc, H4 D = some (.lst acc) ∧ acc.length < sizeLine ∧ Nx (upd H4 D (.lst (acc ++ [y]))) else Nx H3) := by
  have nD : D ≠ a := hw.ne hD
  refine lc_range (fun i H => ∃ ys, Same (hid a H1) (hid D (hid a H)) ∧ WellAt H a (f + c * (n - i)) ∧ H D = some (.lst ys) ∧ ys.length = i ∧ ∀ y ∈ ys, R y (hid D (hid a H))) ⟨[], ?_, hw.upd nD, upd_same, rfl, fun y h => by simp at h⟩ (fun i H hi h => ?_) (fun H h => ?_)
  · rw [hid2_upd nD]
    intro b o e
    have hb : b ≠ D := fun z => by
      rw [z, hid_ne nD, hD] at e
      cases e
    rw [hid_ne hb]
    exact e
  · obtain ⟨ys, s, w, e, l, r⟩ := h
    have ec : f + c * (n - i) = (f + c * (n - (i + 1))) + c := by
      have : n - i = (n - (i + 1)) + 1 := by omega
      rw [this, Nat.mul_succ]
      omega
    rw [ec] at w
    refine hs i H _ (fun y H4 => ∃ acc, H4 D = some (.lst acc) ∧ acc.length < sizeLine ∧ ∃ ys, Same (hid a H1) (hid D (hid a (upd H4 D (.lst (acc ++ [y]))))) ∧ WellAt (upd H4 D (.lst (acc ++ [y]))) a (f + c * (n - (i + 1))) ∧ (upd H4 D (.lst (acc ++ [y]))) D = some (.lst ys) ∧ ys.length = i + 1 ∧ ∀ y' ∈ ys, R y' (hid D (hid a (upd H4 D (.lst (acc ++ [y])))))) hi w s ⟨_, e⟩ fun y H4 s4 w4 ry => ?_
    have e4 : H4 D = some (.lst ys) := by
      have := s4 D (.lst ys) (by rw [hid_ne nD]; exact e)
      rw [hid_ne nD] at this
      exact this
    refine ⟨ys, e4, small1000 (by omega), ys ++ [y], ?_, w4.upd nD, upd_same, by simp [l], fun y' h => ?_⟩
    · rw [hid2_upd nD]
      exact s.trans (hid_mono s4)
    · rw [hid2_upd nD]
      rcases List.mem_append.mp h with h | h
      · exact mono _ _ _ (hid_mono s4) (r y' h)
      · have : y' = y := by simpa using h
        rw [this]
        exact ry
  · obtain ⟨ys, s, w, e, l, r⟩ := h
    rw [Nat.sub_self, Nat.mul_zero] at w
    exact hd H ys s w e l r
/-- what is no list is not hidden with a list -/
theorem hid_no {H : Hp} {D p : Addr} {o : HO} (e : ∃ ys, H D = some (.lst ys)) (h : H p = some o) (ho : ∀ xs, o ≠ .lst xs) : hid D H p = some o := by
  obtain ⟨ys, e⟩ := e
  rw [hid_ne]
  · exact h
  · intro z
    rw [z, e] at h
    cases h
    exact ho _ rfl
theorem IsTup2.hidL {H : Hp} {D : Addr} {v : V} {t b : Int} (e : ∃ ys, H D = some (.lst ys)) (h : IsTup2 H v t b) : IsTup2 (Fb.hid D H) v t b := by
  obtain ⟨p, rfl, h⟩ := h
  exact ⟨p, rfl, hid_no e h (fun _ => nofun)⟩
theorem IsShare.hidL {C : Addr} {H : Hp} {D : Addr} {v : V} {q : Rat} (e : ∃ ys, H D = some (.lst ys)) (h : IsShare C H v q) : IsShare C (Fb.hid D H) v q := by
  obtain ⟨p, dx, rfl, h⟩ := h
  exact ⟨p, dx, rfl, hid_no e h (fun _ => nofun)⟩
theorem allAre_of {α : Type} {R : V → α → Prop} : ∀ {ys : List V}, (∀ y ∈ ys, ∃ x, R y x) → ∃ xs, AllAre R ys xs
  | [], _ => ⟨[], .nil⟩
  | y :: ys, h => by
    obtain ⟨x, hx⟩ := h y List.mem_cons_self
    obtain ⟨xs, hxs⟩ := allAre_of (ys := ys) fun z hz => h z (List.mem_cons_of_mem _ hz)
    exact ⟨x :: xs, .cons hx hxs⟩
theorem AllAre.of_ix {α : Type} {R : V → α → Prop} {ys : List V} {xs : List α} (l : ys.length = xs.length) (h : ∀ (i : Nat) y, ys[i]? = some y → ∃ x, xs[i]? = some x ∧ R y x) : AllAre R ys xs := ⟨l, fun i v x a b => by
  obtain ⟨x', e, r⟩ := h i v a
  rw [e] at b
  cases b
  exact r⟩
theorem AllAre.mem {α : Type} {R : V → α → Prop} {ys : List V} {xs : List α} (h : AllAre R ys xs) {x : α} (hx : x ∈ xs) : ∃ y, R y x := by
  obtain ⟨i, hi, e⟩ := List.mem_iff_getElem.mp hx
  have hl : i < ys.length := by rw [h.1]; exact hi
  exact ⟨ys[i], h.2 i _ x (List.getElem?_eq_getElem hl) (by rw [List.getElem?_eq_getElem hi, e])⟩
theorem rsum_take {qs : List Rat} {i : Nat} {z : Rat} (h : qs[i]? = some z) : rsum (qs.take (i + 1)) = rsum (qs.take i) + z := by
  rw [List.take_add_one, h, rsum_append]
  show rsum (qs.take i) + (z + 0) = _
  rw [Rat.add_zero]
theorem rsum_bd {n : Nat} : ∀ {qs : List Rat}, (∀ q ∈ qs, Bd n q) → Bd ((n + 1) * qs.length + 1) (rsum qs)
  | [], _ => by
    rw [List.length_nil, Nat.mul_zero]
    exact ⟨by decide, by decide⟩
  | q :: r, h => by
    have h1 := (h q List.mem_cons_self).add (rsum_bd (qs := r) fun x hx => h x (List.mem_cons_of_mem _ hx))
    refine h1.mono ?_
    rw [List.length_cons, Nat.mul_succ]
    omega
/-- the law's numbers are whole numbers -/
theorem cells_int {ns : List Int} {lo hi : Option Int} {more : List Int} {i : Nat} {x : V} (h : (cutV (ns.map V.int) lo hi ++ more.map V.int)[i]? = some x) : ∃ z, x = .int z := by
  have m := List.mem_of_getElem? h
  rcases List.mem_append.mp m with m | m
  · have m2 : x ∈ ns.map V.int := by
      unfold cutV at m
      exact List.mem_of_mem_drop (List.mem_of_mem_take m)
    obtain ⟨z, _, e⟩ := List.mem_map.mp m2
    exact ⟨z, e.symm⟩
  · obtain ⟨z, _, e⟩ := List.mem_map.mp m
    exact ⟨z, e.symm⟩
/-- over a heap that has the well's address free, the hidden heap's facts are facts -/
theorem same_hid {H0 H : Hp} {a : Addr} (s : Same H0 (hid a H)) : Same H0 H := s.trans hid_same
/-! ### orders of fractions -/
theorem divInt_neg_iff {n m : Int} (hm : m ≠ 0) : Rat.divInt n m < 0 ↔ n * m < 0 := by
  have key : ∀ {n m : Int}, 0 < m → (Rat.divInt n m < 0 ↔ n * m < 0) := fun {n m} hm => by
    rw [← Rat.not_le, Rat.divInt_nonneg_iff_of_pos_right hm]
    constructor
    · intro h
      exact Int.mul_neg_of_neg_of_pos (by omega) hm
    · intro h z
      have := Int.mul_nonneg z (Int.le_of_lt hm)
      omega
  rcases Int.lt_or_gt_of_ne hm with h | h
  · have e : Rat.divInt n m = Rat.divInt (-n) (-m) := (Rat.neg_divInt_neg n m).symm
    rw [e, key (by omega), Int.neg_mul_neg]
  · exact key h
theorem lt_cross {a b c d : Int} (hb : b ≠ 0) (hd : d ≠ 0) : Rat.divInt a b < Rat.divInt c d ↔ (a * d - c * b) * b * d < 0 := by
  have e : Rat.divInt a b - Rat.divInt c d = Rat.divInt (a * d - c * b) (b * d) := Rat.divInt_sub_divInt a c hb hd
  rw [Int.mul_assoc, ← divInt_neg_iff (Int.mul_ne_zero hb hd), ← e, ← Rat.not_le, Rat.le_iff_sub_nonneg, Rat.not_le]
end Fb

/-! Part A5: rules for ==, != and str of an instance of the program's own class (own __eq__ and __str__, no own __ne__). -/
namespace Fb
open PySem PySem.Spec PyProof.Rows L2
section
variable {prog : Program} {w : World} {A : Around} {E : Value → Shared → Prop} {s : Shared} {K : PySem.W.Frag} {x C f L : Addr} {h0 : Heap} {m : Str → Option Value} {ox : Obj} {od : Option Obj} {b tb : Value}
theorem slot_object_ne : Slot "object" "__ne__" "object.__ne__" :=
  .of (owner := "object") (n := "__ne__") (by rw [typeLookup_type, builtinLookup_eq_fast]; kernel_rfl) (by decide +kernel) (by decide +kernel) (by decide +kernel)
    (by first | exact .inl (by decide +kernel) | exact .inr (by decide +kernel)) (by rw [isSubtype_type]; kernel_rfl)
/-- a special method that is a built-in slot, looked up as comparisons do -/
theorem ifBound_B {M : Model} {name : Str} {id : String} {args : List Value} {Q : Option Value → Shared → Prop} (X : K.In s.heap) (I : PySem.W.InstAt s.heap x ox C od) (hs : PySem.W.findIn K (.ref C) name = some (some (.builtin id)))
    (hb : ∀ self, bindSpecial (.builtin id) self = pure (.builtin id, [self]))
    (h : wpAny M A (call (.builtin id) (.ref x :: args)) (fun v => Q (some v)) E s) : wpAny M A (callSpecialIfBound? (.ref x) name args) Q E s := by
  simp only [callSpecialIfBound?, bindSpecialIfBound?]
  refine wpAny_holding (wpAny_bind (wpAny_bind (wpAny_bind (I.type.here ((PySem.W.looks_findIn X hs).here ?_)))))
  refine wpAny_bind (wpAny_askSetting (wpAny_ite ?_))
  have fin : wpAny M A (call (.builtin id) ([.ref x] ++ args) >>= fun v => pure (some v)) Q E s := wpAny_bind (wpAny_mono h (fun v s' h' => wpAny_pure h') fun _ _ h' => h')
  split
  · exact wpAny_bind ((PySem.W.Looks.of_pure (hb _)).here (wpAny_pure (by exact fin)))
  · exact wpAny_tryCatch (wpAny_bind ((PySem.W.Looks.of_pure (hb _)).here (wpAny_pure (by exact fin))))
theorem objNe_K {Q : Value → Shared → Prop} (hu : A.in1.units < cLine) (X : K.In s.heap) (I : PySem.W.InstAt s.heap x ox C od) (hm : PySem.W.mroIn K C (.type "object") = some true) (hs : PySem.W.findIn K (.ref C) "__eq__" = some (some (.ref f))) (hf : PySem.W.isFn K (.ref f) = true)
    (h : wpAny (model prog w) A.in1 (call (.ref f) [.ref x, b]) (fun v s' => ∃ r, v = .bool r ∧ Q (.bool (!r)) s') E s) : wpAny (model prog w) A (call (.builtin "object.__ne__") [.ref x, b]) Q E s := by
  refine wpAny_call (codeAny_call_builtin slot_object_ne.plain PySem.F.cmpEntry_ne (PySem.W.check_slot (i := "object.__ne__") (owner := "object") (n := "__ne__") (by decide +kernel) (by decide +kernel) (I.type.andThen (PySem.W.looks_mroIn X hm)) (PySem.F.cmpArgs_ne _ _) ?_))
  unfold Builtin.«object.__ne__»
  refine wpAny_bind (m := slotArgs "__ne__" 1 _) (wpAny_pure ?_)
  refine wpAny_bind (m := cRoomFor _ _) (wpAny_cRoomFor hu ?_)
  refine wpAny_bind (m := callSpecialIfBound? (.ref x) (Str.ofString "__eq__") _) (PySem.W.ifBound_K X I hs hf (wpAny_mono h (fun r s' hq => ?_) fun _ _ y => y))
  obtain ⟨r, rfl, q⟩ := hq
  exact wpAny_bind (wpAny_truthy_bool (wpAny_pure q))
theorem ne_K {Q : Value → Shared → Prop} (hu : A.units < cLine) (hu1 : A.in1.units < cLine) (F : PyProof.Rows.Fr h0 L s.heap m) (X₀ : K.In h0) (I : PySem.W.InstAt s.heap x ox C od) (hb : PySem.W.Looks (model prog w) s.heap (typeOf b) tb) (hn : PySem.W.notFirst K C tb = true)
    (hne : PySem.W.findIn K (.ref C) "__ne__" = some (some (.builtin "object.__ne__"))) (hm : PySem.W.mroIn K C (.type "object") = some true) (hs : PySem.W.findIn K (.ref C) "__eq__" = some (some (.ref f))) (hf : PySem.W.isFn K (.ref f) = true)
    (h : wpAny (model prog w) A.in1 (call (.ref f) [.ref x, b]) (fun v s' => ∃ r, v = .bool r ∧ Q (.bool (!r)) s') E s) : wpAny (model prog w) A (richCompare .NotEq (.ref x) b) Q E s := by
  have X := X₀.keeps F.keep
  have one : wpAny (model prog w) A (tryCompare (.ref x) (cmpInfo .NotEq).2.1 b) (fun r s' => ∃ v, r = some v ∧ Q v s') E s := by
    unfold tryCompare
    refine wpAny_bind (ifBound_B X I hne slot_object_ne.bind (objNe_K hu1 X I hm hs hf (wpAny_mono h (fun v s' hv => ?_) fun _ _ e => e)))
    obtain ⟨r, rfl, q⟩ := hv
    exact ⟨r, rfl, wpAny_pure ⟨_, rfl, q⟩⟩
  unfold richCompare
  simp only [oneThing_ref]
  refine wpAny_holding (wpAny_bind (wpAny_cRoomFor hu ?_))
  refine wpAny_bind (I.type.here (wpAny_bind (hb.here ?_)))
  split
  · rename_i q
    have e : PySem.W.subIn K tb (.ref C) = some false := by
      rcases Bool.or_eq_true_iff.mp hn with e | e
      · rw [beq_iff_eq.mp e] at q; simp at q
      · exact beq_iff_eq.mp e
    refine wpAny_bind ((PySem.W.looks_subIn X e).here ?_)
    simp only [Bool.false_eq_true, if_false]
    refine wpAny_bind (wpAny_mono one (fun r s' z => ?_) fun _ _ e => e)
    obtain ⟨v, rfl, hq⟩ := z
    exact wpAny_pure hq
  · refine wpAny_bind (wpAny_pure ?_)
    simp only [Bool.false_eq_true, if_false]
    refine wpAny_bind (wpAny_mono one (fun r s' z => ?_) fun _ _ e => e)
    obtain ⟨v, rfl, hq⟩ := z
    exact wpAny_pure hq
open Builtin Builtin.Str in
theorem str_K {Q : Value → Shared → Prop} (hu : A.in1.in1.units < cLine) (X : K.In s.heap) (I : PySem.W.InstAt s.heap x ox C od) (hs : PySem.W.findIn K (.ref C) "__str__" = some (some (.ref f))) (hf : PySem.W.isFn K (.ref f) = true)
    (h : wpAny (model prog w) A.in1.in1 (call (.ref f) [.ref x]) (PySem.W.StrBack Q) E s) : wpAny (model prog w) A (call (.type "str") [.ref x]) Q E s := by
  refine callType_codes (T := "str") (Bi := Builtin.«object.__init__») (Q₁ := fun r s₁ => ∃ y u, r = .str y u ∧ Q r s₁) PySem.F.called_str (PySem.F.typeCall_str_1 _) PySem.F.entry_object_init ?_ ?_
  · refine codeAny_of_tree ?_
    show wpAny _ A.in1.in1 (do checkBuiltinCall "str.__new__" ⟨[.type "str", .ref x], []⟩; again (.builtin "str.__new__" ⟨[.type "str", .ref x], []⟩)) _ _ s
    refine wpAny_bind (wpAny_of_eq (PySem.F.newCall_str_1 _) (wpAny_pure ⟨plainId_quiet (by decide +kernel) _, codeAny_builtin PySem.F.entry_str_new ?_⟩))
    rw [Around.under_plainId (by decide +kernel) _]
    rw [str_new_tree]
    refine wpAny_bind (wpAny_pure ?_)
    refine wpAny_bind (wpAny_of_eq isSubtype_str_str ?_)
    have key : wpAny (model prog w) A.in1.in1 (PySem.Builtin.Str.strOf (.ref x)) (fun r s₁ => ∃ y u, r = .str y u ∧ Q r s₁) E s := by
      unfold PySem.Builtin.Str.strOf
      rw [show isExactStr (.ref x) = false from rfl]
      refine wpAny_bind (m := cRoomFor _ _) (wpAny_cRoomFor hu ?_)
      refine wpAny_bind (m := callSpecial? (.ref x) (Str.ofString "__str__")) (PySem.W.special_fn X I hs (beq_iff_eq.mp hf) (wpAny_mono h (fun r s' z => ?_) fun _ _ y => y))
      cases r <;> first | exact z.elim | exact wpAny_pure ⟨_, _, rfl, z⟩
    exact wpAny_bind (wpAny_mono key (fun r s₁ hr => wpAny_pure hr) fun _ _ y => y)
  · rintro obj s₁ ⟨y, u, rfl, hq⟩
    exact ⟨typeIs_str _ _ _, PySem.F.args_object_init_2 _ _, object_init_meets PySem.F.called_str.init.lookup PySem.F.called_str.made (by decide) prog w A.in1 _ s₁ ⟨typeIs_str _ _ _, rfl, hq⟩⟩
end
section
variable {X : Cx} {k : Nat} {C f : Addr} {fd : FuncData} {ps : List Str} {sp : Sp}
/-- what is asked of the two: the first an instance of C, the second of a type that is no subclass -/
def rOwn2 (K : PySem.W.Frag) (C : Addr) (sp : Sp) (g : Bool → Bool) : R2 := fun x y H Q => ∃ a dx fs t, x = .ref a ∧ H a = some (.ins C dx fs) ∧ TyX K H y t ∧ PySem.W.notFirst K C t = true ∧ sp [x, y] H (fun v H' => ∃ r, v = .bl r ∧ Q (.bl (g r)) H') E0
theorem run_in {A : Around} {pins : List (Addr × Obj)} {σ : L2.St} {H : Hp} {s : Shared} {Q : VK} {us : List Value} {vs : List V} (F : FnOk X.prog X.w X.K X.mg X.base CX0 k f fd ps sp) (hr : Room k A) (he : Env0 X.prog X.w X.K X.mg X.base A X.stack s H) (hb : Binds X.K fd ps [])
    (I : Inv X pins σ H s) (r : Vals vs us) (h : sp vs H Q E0) : wpAny (model X.prog X.w) A (call (.ref f) us) (EP X pins σ Q) X.xe s := by
  have hl : (us ++ []).length = ps.length := by rw [List.append_nil, ← r.length]; exact F.len _ _ _ _ h
  have hbb := hb s us I.kIn hl
  rw [List.append_nil] at hbb
  refine wpAny_call (codeAny_mono (F.run A X.stack s H ⟨us, []⟩ us vs Q E0 hr he hbb r h) fun r s' hq => ?_)
  cases r with
  | error e => exact hq.elim
  | ok fl =>
    cases fl with
    | ret u => exact I.after hq
    | next => exact False.elim hq
    | brk => exact False.elim hq
    | cont => exact False.elim hq
theorem op_eqOwn (F : FnOk X.prog X.w X.K X.mg X.base CX0 k f fd ps sp) (hr : Room (k + 1) X.A) (hb : Binds X.K fd ps []) (hs : PySem.W.findIn X.K (.ref C) "__eq__" = some (some (.ref f))) (hf : PySem.W.isFn X.K (.ref f) = true) :
    OpR X (compareOp .Eq) (rOwn2 X.K C sp id) := by
  intro pins s σ H x y v u Q I rx ry h
  obtain ⟨a, dx, fs, t, rfl, ha, ty, hn, hsp⟩ := h
  cases rx
  obtain ⟨P, Z, p, _⟩ := kit_of I ry ty
  obtain ⟨mA, J, _⟩ := ins_get I.hok ha
  obtain ⟨od, J, _⟩ := J.look
  obtain ⟨m, hF⟩ := I.fr
  show wpAny (model X.prog X.w) X.A (richCompare .Eq (.ref a) u) (EP X pins σ Q) X.xe s
  refine PySem.W.cmp_K (op := .Eq) (tb := t) hr.units0 hF I.ok.mod.kin J (Z.ty _ _ I.kIn p) hn hs hf ?_
  refine wpAny_mono (run_in F (hr.mono (Nat.le_succ k)) I.env0 hb I (vs := [.ref a, y]) (.cons rfl (.cons ry .nil)) hsp) (fun r s' z => ?_) fun _ _ e => e
  obtain ⟨z1, H', I', rz, b, rfl, q⟩ := z
  cases rz
  exact ⟨.bl b, H', I', rfl, q⟩
theorem op_neOwn (F : FnOk X.prog X.w X.K X.mg X.base CX0 k f fd ps sp) (hr : Room (k + 1) X.A) (hb : Binds X.K fd ps []) (hs : PySem.W.findIn X.K (.ref C) "__eq__" = some (some (.ref f))) (hf : PySem.W.isFn X.K (.ref f) = true)
    (hne : PySem.W.findIn X.K (.ref C) "__ne__" = some (some (.builtin "object.__ne__"))) (hm : PySem.W.mroIn X.K C (.type "object") = some true) :
    OpR X (compareOp .NotEq) (rOwn2 X.K C sp not) := by
  intro pins s σ H x y v u Q I rx ry h
  obtain ⟨a, dx, fs, t, rfl, ha, ty, hn, hsp⟩ := h
  cases rx
  obtain ⟨P, Z, p, _⟩ := kit_of I ry ty
  obtain ⟨mA, J, _⟩ := ins_get I.hok ha
  obtain ⟨od, J, _⟩ := J.look
  obtain ⟨m, hF⟩ := I.fr
  show wpAny (model X.prog X.w) X.A (richCompare .NotEq (.ref a) u) (EP X pins σ Q) X.xe s
  refine ne_K (tb := t) hr.units0 hr.in1.units0 hF I.ok.mod.kin J (Z.ty _ _ I.kIn p) hn hne hm hs hf ?_
  refine wpAny_mono (run_in (A := X.A.in1) F hr.in1 I.env0.in1 hb I (vs := [.ref a, y]) (.cons rfl (.cons ry .nil)) hsp) (fun r s' z => ?_) fun _ _ e => e
  obtain ⟨z1, H', I', rz, b, rfl, q⟩ := z
  cases rz
  exact ⟨b, rfl, .bl (!b), H', I', rfl, q⟩
/-- str of an instance -/
theorem call_strOwn (F : FnOk X.prog X.w X.K X.mg X.base CX0 k f fd ps sp) (hr : Room (k + 2) X.A) (hb : Binds X.K fd ps []) (hs : PySem.W.findIn X.K (.ref C) "__str__" = some (some (.ref f))) (hf : PySem.W.isFn X.K (.ref f) = true) :
    CallR X (.type "str") (fun xs H Q => ∃ a dx fs, xs = [.ref a] ∧ H a = some (.ins C dx fs) ∧ sp [.ref a] H (fun v H' => ∃ z, v = .str z ∧ Q v H') E0) := by
  intro pins s σ H xs us Q I r h
  obtain ⟨a, dx, fs, rfl, ha, hsp⟩ := h
  obtain ⟨u, rfl, ru⟩ := vals1 r
  cases ru
  obtain ⟨mA, J, _⟩ := ins_get I.hok ha
  obtain ⟨od, J, _⟩ := J.look
  refine str_K hr.in1.in1.units0 I.kIn J hs hf ?_
  refine wpAny_mono (run_in (A := X.A.in1.in1) F hr.in1.in1 I.env0.in1.in1 hb I (vs := [.ref a]) (.cons rfl .nil) hsp) (fun r s' z => ?_) fun _ _ e => e
  obtain ⟨z1, H', I', rz, y, rfl, q⟩ := z
  obtain ⟨t, rfl⟩ := rz
  exact ⟨.str y, H', I', ⟨t, rfl⟩, q⟩
/-- the same with the written part named -/
theorem op_eqOwnK {K : PySem.W.Frag} (hK : X.K = K) (F : FnOk X.prog X.w X.K X.mg X.base CX0 k f fd ps sp) (hr : Room (k + 1) X.A) (hb : Binds X.K fd ps []) (hs : PySem.W.findIn X.K (.ref C) "__eq__" = some (some (.ref f))) (hf : PySem.W.isFn X.K (.ref f) = true) :
    OpR X (compareOp .Eq) (rOwn2 K C sp id) := hK ▸ op_eqOwn F hr hb hs hf
end
end Fb

/-! Part A6: counting truths; orders. -/
namespace Fb
open PySem PySem.Spec PyProof.Rows L2
section
variable {X : Cx}
def isT : Value → Bool
  | .bool b => b
  | _ => false
/-- xs.count(True), xs a list of truths -/
def rCntB (K : PySem.W.Frag) : V → List V → Hp → VK → Prop := fun x xs H Q => ∃ (p : Addr) (bs : List Bool), x = .ref p ∧ xs = [.bl true] ∧ SqL K H p (bs.map V.bl) ∧ Q (.int (bs.count true : Nat)) H
theorem mt_countB : MtR X "list.count" (rCntB X.K) := by
  intro pins s σ H x xs v us Q I rx rxs h
  obtain ⟨p, bs, rfl, rfl, hs, q⟩ := h
  cases rx
  obtain ⟨u, rfl, ru⟩ := rxs.one
  cases ru
  obtain ⟨its, rv, ⟨⟨cls, dd, data, sl⟩, n, ho, hc, hdn, hd⟩, hlen⟩ := I.list hs
  simp only at hc hd
  subst hc hd
  have hb := rv.bls
  refine call_meets PySem.F.slot_list_count ⟨_, ho, rfl⟩ PySem.F.entry_list_count (PySem.F.args_list_count_2 _ _)
    (SeqAt.list_countAt p its.toArray n dd sl (.bool true) isT) ⟨ho, fun y hy => ?_, ?_⟩
  · have hy' : y ∈ its := by simpa using hy
    rw [hb] at hy'
    obtain ⟨b, _, rfl⟩ := List.mem_map.mp hy'
    have e := eqAt_V (A := X.A.in1) (s := s) (y := .bl b) (x := .bl true) (u := .bool b) (v := .bool true) rfl rfl rfl rfl
    have e2 : eqV (.bl b) (.bl true) = isT (.bool b) := by cases b <;> rfl
    rw [e2] at e
    exact e
  · have ec : its.toArray.toList.countP isT = bs.count true := by
      rw [hb]
      clear hb rv hs hlen hdn ho q
      induction bs with
      | nil => rfl
      | cons b r ih =>
        simp only [List.map_cons, List.countP_cons, List.count_cons] at ih ⊢
        cases b <;> simp_all [isT]
    refine ⟨.int (bs.count true : Nat), H, I.tok _, ⟨s.toks, ?_⟩, q⟩
    show Value.int ((its.toArray.toList.countP isT : Nat) : Int) s.toks = Value.int ((bs.count true : Nat) : Int) s.toks
    rw [ec]
end
theorem one_of_three (x y : Rat) : [decide (x < y), decide (x = y), decide (y < x)].count true = 1 := by
  by_cases h1 : x < y
  · have h2 : x ≠ y := Rat.ne_of_lt h1
    have h3 : ¬ y < x := Rat.not_lt.mpr (Rat.le_of_lt h1)
    simp [h1, h2, h3]
  · by_cases h2 : x = y
    · subst h2
      simp [h1]
    · have h3 : y < x := Rat.lt_of_le_of_ne (Rat.not_lt.mp h1) (fun e => h2 e.symm)
      simp [h1, h2, h3]
theorem lt_trans' {x y z : Rat} (h1 : x < y) (h2 : y < z) : x < z := by
  have h := Rat.le_trans (Rat.le_of_lt h1) (Rat.le_of_lt h2)
  refine Rat.lt_of_le_of_ne h fun e => ?_
  subst e
  exact Rat.not_le.mpr h1 (Rat.le_of_lt h2)
theorem bd0 : Bd 1 0 := ⟨by decide, by decide⟩
theorem bd1 : Bd 1 1 := ⟨by decide, by decide⟩
theorem rsum_rev : ∀ qs : List Rat, rsum qs.reverse = rsum qs
  | [] => rfl
  | q :: r => by
    rw [List.reverse_cons, rsum_append, rsum_rev r]
    show rsum r + (q + 0) = q + rsum r
    rw [Rat.add_zero, Rat.add_comm]
end Fb
namespace Fb
open PySem PySem.Spec PyProof.Rows L2
theorem cut_from {xs : List V} {k : Nat} (h : k ≤ xs.length) : cutV xs (some (k : Int)) none = xs.drop k := by
  unfold cutV
  rw [HT.sIx_nat, HT.sIx_none, Nat.min_eq_left h]
  exact List.take_of_length_le (by rw [List.length_drop]; exact Nat.le_refl _)
theorem cut_to {xs : List V} {k : Nat} (h : k ≤ xs.length) : cutV xs none (some (k : Int)) = xs.take k := by
  unfold cutV
  rw [HT.sIx_nat, HT.sIx_none, Nat.min_eq_left h]
  rfl
/-- a share with its bound -/
def Sh (C : Addr) (n : Nat) (G : Hp) (v : V) (q : Rat) : Prop := IsShare C G v q ∧ Bd n q
theorem Sh.mono {C : Addr} {n : Nat} {G G' : Hp} {v : V} {q : Rat} (h : Sh C n G v q) (s : Same G G') : Sh C n G' v q := ⟨h.1.mono s, h.2⟩
theorem AllAre.few {C : Addr} {n N : Nat} {G : Hp} {vs : List V} {qs : List Rat} (h : AllAre (Sh C n G) vs qs) (l : vs.length ≤ N) (s : n * N ≤ 8000) (m : N ≤ 999) (p : 0 < n) : Few n N qs :=
  ⟨fun q hq => by obtain ⟨y, hy⟩ := h.mem hq; exact hy.2, by rw [← h.1]; exact l, s, m, p⟩
theorem AllAre.shares {C : Addr} {n : Nat} {G H : Hp} {p : Addr} {vs : List V} {qs : List Rat} (h : AllAre (Sh C n G) vs qs) (s : Same G H) (e : H p = some (.lst vs)) : IsShares C H (.ref p) qs :=
  ⟨p, vs, rfl, e, h.imp fun _ _ r => r.1.mono s⟩
theorem bd_div {n : Nat} {t b : Int} (h : b ≠ 0) (ht : t.natAbs < 2 ^ n) (hb : b.natAbs < 2 ^ n) : Bd n (Rat.divInt t b) := .divInt h ht hb
end Fb

/-! Part A7: errors of the program's own: made in a constructor inside a try, asked for their class in the suite. -/
namespace Fb
open PySem PySem.Spec PyProof.Rows L2
section
variable {X : Cx} {CX : CXT} {k : Nat} {f C : Addr} {fd : FuncData} {ps : List Str} {sp : Sp} {dvs : List V} {ds : List Value} {E : L2.St → XK} {x : Str} {p pos : Pos} {e : Expr} {es : List Expr} {t : TA}
theorem run_makeS {pins : List (Addr × Obj)} {σ : L2.St} {H : Hp} {s : Shared} {Q : VK} {us : List Value} {vs : List V} (M : Mk X.K C f) (F : FnOk X.prog X.w X.K X.mg X.base CX k f fd ps sp) (hr : Room (k + 1) X.A) (hb : Binds X.K fd ps ds) (hd : Vals dvs ds)
    (hx : PassesAt CX X σ (E σ)) (I : Inv X pins σ H s) (r : Vals vs us)
    (h : ∀ x dx, H x = none → H dx = none → dx ≠ x → sp (.ref x :: (vs ++ dvs)) (upd (upd H dx (.own x)) x (.ins C dx [])) (fun v H2 => v = .non ∧ Q (.ref x) H2) (E σ)) :
    wpAny (model X.prog X.w) X.A (call (.ref C) us) (EP X pins σ Q) X.xe s := by
  have hq := h (s.heap.objs.size + 1) s.heap.objs.size (I.hok.fresh (Nat.le_succ _)) (I.hok.fresh (Nat.le_refl _)) (Nat.ne_of_lt (Nat.lt_succ_self _))
  have I2 := Inv.made (C := C) I
  have r2 : Vals (V.ref (s.heap.objs.size + 1) :: (vs ++ dvs)) (Value.ref (s.heap.objs.size + 1) :: (us ++ ds)) := .cons rfl (r.append hd)
  have hl : (Value.ref (s.heap.objs.size + 1) :: us ++ ds).length = ps.length := by
    have e := r2.length
    rw [F.len _ _ _ _ hq] at e
    exact e.symm
  refine wpAny_call (make_map (f := f) I.kIn M.makes M.init (beq_iff_eq.mp M.fn) (codeAny_mono (F.run _ X.stack _ _ ⟨Value.ref (s.heap.objs.size + 1) :: us, []⟩ (Value.ref (s.heap.objs.size + 1) :: (us ++ ds)) _ _ (E σ) (hr.make C us [])
    (I2.env0.make C us []) (hb _ (Value.ref (s.heap.objs.size + 1) :: us) I2.kIn hl) r2 hq) fun r s' hq' => ?_))
  cases r with
  | error e => exact hx pins _ _ e s' I2 hq'
  | ok fl =>
    cases fl with
    | ret u =>
      obtain ⟨v, H', I3, rv, ev, q3⟩ := I2.after hq'
      subst ev
      exact ⟨rv, ⟨V.ref (s.heap.objs.size + 1), H', I3, rfl, q3⟩⟩
    | next => exact False.elim hq'
    | brk => exact False.elim hq'
    | cont => exact False.elim hq'
def tMakeS (C : Addr) (sp : Sp) (dvs : List V) (E : L2.St → XK) (t : TA) : TE := fun σ H Q => t σ H fun vs H1 => ∀ x dx, H1 x = none → H1 dx = none → dx ≠ x →
  sp (.ref x :: (vs ++ dvs)) (upd (upd H1 dx (.own x)) x (.ins C dx [])) (fun v H2 => v = .non ∧ Q (.ref x) H2) (E σ)
theorem pe_makeS (M : Mk X.K C f) (F : FnOk X.prog X.w X.K X.mg X.base CX k f fd ps sp) (hr : Room (k + 1) X.A) (hg : Gl X x) (hm : X.mg x = some (.ref C)) (hb : Binds X.K fd ps ds) (hd : Vals dvs ds) (hx : ∀ σ, PassesAt CX X σ (E σ))
    (ha : PA X (e :: es) t) (hdb : (x == ("__debug__" : Str)) = false := by decide) (he : starEach (e :: es) X.env = (false, eval e X.env) :: starEach es X.env := by rfl) (hpl : (backTo pos (starEach es X.env)).any (·.1) = false := by rfl) :
    PE X (.Call (.Name x p) (e :: es) [] pos) (tMakeS C sp dvs E t) := by
  refine ⟨fun pins s σ H Q I h => ?_⟩
  refine wpAny_Call_Name_kw (ld_glob I hg hm ?_ hdb)
  refine PySem.W.callWith_K (h₀ := X.base) I.ok.mod.kin M.kp (thn (ha.run pos pins s σ H _ I h) fun us s1 ⟨vs, H1, I1, r, q⟩ => ⟨I1.kIn, ?_⟩) he hpl
  exact run_makeS M F hr hb hd (hx σ) I1 r q
end
section
variable {X : Cx} {a : Addr} {oe : Obj} {cls : Value} {d : Option Addr} {pn : List (Addr × Obj)}
/-- isinstance(e, c) and isinstance(e, (c, ..)), e the error that the suite holds, of a class of the program's own -/
def rIsErr (K : PySem.W.Frag) (cls : Value) (d : Option Addr) (a : Addr) : List V → Hp → VK → Prop := fun xs H Q => ∃ (D : Addr) (c : V) (u : Value) (b : Bool), cls = .ref D ∧ d = none ∧ ExcC K D ∧ xs = [.ref a, c] ∧ ClsV c u ∧ PySem.W.kitOne K (.ref D) u = some b ∧ Q (.bl b) H
theorem call_isErr (hz : Zc cls d oe) (hf : ∃ vs, oe.data = .fields vs) : CallR (X.suite a ((a, oe) :: pn)) (.builtin "isinstance") (rIsErr X.K cls d a) := by
  intro pins s σ H xs us Q I r h
  obtain ⟨D, c, u, b, rfl, rfl, C, rfl, k, e, q⟩ := h
  exact call_isE (X := X) C hz hf pins s σ H _ us Q I r ⟨c, u, b, rfl, fun w hw => k.eq hw, e, q⟩
def rIsErrT (K : PySem.W.Frag) (cls : Value) (d : Option Addr) (a : Addr) : List V → Hp → VK → Prop := fun xs H Q => ∃ (D tp : Addr) (cs : List V) (us : List Value) (b : Bool), cls = .ref D ∧ d = none ∧ ExcC K D ∧ xs = [.ref a, .ref tp] ∧ H tp = some (.tup cs) ∧ Paired ClsV cs us ∧ PySem.W.kitAny K (.ref D) us = some b ∧ Q (.bl b) H
theorem call_isErrT (hz : Zc cls d oe) (hf : ∃ vs, oe.data = .fields vs) : CallR (X.suite a ((a, oe) :: pn)) (.builtin "isinstance") (rIsErrT X.K cls d a) := by
  intro pins s σ H xs us Q I r h
  obtain ⟨D, tp, cs, ws, b, rfl, rfl, C, rfl, hT, k, e, q⟩ := h
  obtain ⟨u1, u2, rfl, r1, r2⟩ := vals2 r
  cases r1
  cases r2
  obtain ⟨hget, _⟩ := I.pin (a, oe) (List.mem_append.mpr (.inl List.mem_cons_self))
  obtain ⟨vs, hv⟩ := hf
  have J : PySem.W.InstAt s.heap a oe D none := by
    obtain ⟨oc, od, oda, osl⟩ := oe
    obtain ⟨h1, h2⟩ := hz
    dsimp only at h1 h2 hv
    subst h1 h2 hv
    exact ⟨hget, rfl, rfl, trivial⟩
  obtain ⟨_, its, rv, o, h1, h2, n, h3⟩ := (show ObjOk X.prog X.w H s.heap tp (.tup cs) from I.hok tp _ hT)
  have e3 := ClsV.all k rv
  subst e3
  obtain ⟨oc, od, dt, sl⟩ := o
  simp only at h2 h3
  subst h2 h3
  exact PySem.W.kia_tup (PySem.W.handS_kitx_exc C.hg C.hk C.hs C.hd C.ha C.hn C.ht C.hm) I.kIn J h1 e (fun z => nomatch z) fun tk => ⟨.bl b, H, I.kept (t' := tk) fun _ _ z => z, rfl, q⟩
end
end Fb

/-! Part A8: == and != of lists whose items have an own __eq__, with either answer; pairs that stand for fractions. -/
namespace Fb
open PySem PySem.Spec PySem.SeqAt
open AutoSeq1 (wpAny_loadPart')
open MeetsSeq MeetsSeq2 MeetsSeq3 SeqRoads2
section
variable {prog : Program} {w : World} {A : Around} {R : Result → Shared → Prop}
def ListB (prog : Program) (w : World) (A : Around) (E : Value → Shared → Prop) (l b : Addr) (N : Nat) (e : Nat → Bool) (I : Shared → Prop) : Prop :=
  ∀ s, I s → ∃ (items items2 : Array Value) (n n2 : Nat), s.heap.get? l = some { cls := .type "list", data := .seq items n } ∧ s.heap.get? b = some { cls := .type "list", data := .seq items2 n2 } ∧ items.size = N ∧ items2.size = N ∧
    ∀ i (h1 : i < items.size) (h2 : i < items2.size), wpAny (model prog w) A.in1 (eqBool items[i] items2[i]) (fun r s' => r = e i ∧ I s') E s

/-- at each turn the two lists are read anew: N items each, of the i-th two e tells whether they are equal -/
theorem eq_loopB_eq (l b : Addr) (N : Nat) (e : Nat → Bool) (I : Shared → Prop) (hl : ListB prog w A (fun e s' => R (.error e) s') l b N e I)
    (fin : ∀ s, I s → R (.ok (.ret (.bool (((List.range N).all e))))) s) (k : Nat) :
    ∀ i : Nat, N - i = k → i ≤ N → ((List.range N).take i).all e = true → ∀ s, I s →
      wpAny (model prog w) A.in1 (Builtin.«list.__eq__.loop» ⟨[.ref l, .ref b, rawInt i, rawInt 2], []⟩) (GQ.FinOf prog w A R) (fun e s' => R (.error e) s') s := by
  induction k with
  | zero =>
    intro i hk hi ht s h
    obtain ⟨items, items2, n, n2, hl1, hb1, hs1, hs2, _⟩ := hl _ h
    have hi' : i = N := by omega
    have hR : R (.ok (.ret (.bool ( true)))) s := by
      have := fin s h
      rw [hi', List.take_of_length_le (by simp)] at ht
      rwa [ht] at this
    obtain ⟨hp, g, d, tk, os⟩ := s
    wp_walk using wpAny_loadPart' hl1, wpAny_loadPart' hb1
    have hi1 : items[((i : Nat) : Int).toNat]? = none := by simp; omega
    have hi2 : items2[((i : Nat) : Int).toNat]? = none := by simp; omega
    rw [hi1, hi2]
    wp_walk using wpAny_loadPart' hl1, wpAny_loadPart' hb1
    show R (.ok (.ret (.bool (items.size == items2.size)))) _
    rw [hs1, hs2]
    simpa using hR
  | succ k ih =>
    intro i hk hi ht s h
    obtain ⟨items, items2, n, n2, hl1, hb1, hs1, hs2, turn⟩ := hl _ h
    have hlt : i < items.size := by omega
    have hlt2 : i < items2.size := by omega
    have htn := turn i hlt hlt2
    obtain ⟨hp, g, d, tk, os⟩ := s
    wp_walk using wpAny_loadPart' hl1, wpAny_loadPart' hb1
    have hi1 : items[((i : Nat) : Int).toNat]? = some items[i] := by simp [hlt]
    have hi2 : items2[((i : Nat) : Int).toNat]? = some items2[i] := by simp [hlt2]
    have hc : ((i : Int) + 1) = ((i + 1 : Nat) : Int) := by omega
    rw [hi1, hi2]
    refine wpAny_bind (wpAny_mono htn (fun r s2 h2 => ?_) fun _ _ x => x)
    obtain ⟨hr, h2⟩ := h2
    have hd : (List.range N).drop i = i :: (List.range N).drop (i + 1) := by
      rw [List.drop_eq_getElem_cons (by simp; omega)]
      simp
    cases hb' : e i with
    | true =>
      rw [hb'] at hr
      subst hr
      have ht2 : ((List.range N).take (i + 1)).all e = true := by
        rw [List.take_add_one, List.all_append, ht]
        simp [show i < N by omega, hb']
      have hrec := ih (i + 1) (by omega) (by omega) ht2 s2 h2
      obtain ⟨hp2, g2, d2, tk2, os2⟩ := s2
      wp_walk
      rw [hc]
      exact ⟨plainId_quiet plain_eq_loop _, codeAny_builtin entry_eq_loop (by
        rw [Around.under_plainId plain_eq_loop _]
        exact hrec)⟩
    | false =>
      rw [hb'] at hr
      subst hr
      have hR := fin s2 h2
      have hall : (List.range N).all e = false := by
        rw [← List.take_append_drop i (List.range N), List.all_append, ht, hd, List.all_cons, hb']
        rfl
      rw [hall] at hR
      obtain ⟨items', items2', n', n2', hl2, hb2, hs1', hs2', _⟩ := hl _ h2
      obtain ⟨hp2, g2, d2, tk2, os2⟩ := s2
      have hi1' : items'[((i : Nat) : Int).toNat]? = some (items'[i]'(by omega)) := by simp [show i < items'.size by omega]
      have hi2' : items2'[((i : Nat) : Int).toNat]? = some (items2'[i]'(by omega)) := by simp [show i < items2'.size by omega]
      wp_walk using wpAny_loadPart' hl2, wpAny_loadPart' hb2
      rw [hi1', hi2']
      wp_walk
      simpa using hR
theorem list_eqB_eq (l b : Addr) (N : Nat) (e : Nat → Bool) (I : Shared → Prop) (hl : ListB prog w A (fun e s' => R (.error e) s') l b N e I)
    (fin : ∀ s, I s → R (.ok (.ret (.bool (((List.range N).all e))))) s) {s : Shared} (h : I s) :
    wpAny (model prog w) A.in1 (Builtin.«list.__eq__» ⟨[.ref l, .ref b], []⟩) (GQ.FinOf prog w A R) (fun e s' => R (.error e) s') s := by
  obtain ⟨items, items2, n, n2, hl1, hb1, hs1, hs2, _⟩ := hl _ h
  have hrec := eq_loopB_eq (A := A) (R := R) l b N e I hl fin _ 0 rfl (Nat.zero_le _) rfl s h
  obtain ⟨hp, g, d, tk, os⟩ := s
  have f3 := AutoSeq1.sub_list_list
  have hne : ¬ (items.size != items2.size) = true := by simp [hs1, hs2]
  wp_walk using wpAny_loadPart' hl1, wpAny_loadPart' hb1
  exact ⟨plainId_quiet plain_eq_loop _, codeAny_builtin entry_eq_loop (by
    rw [Around.under_plainId plain_eq_loop _]
    exact hrec)⟩
theorem rc_listB_eq {E : Value → Shared → Prop} {s : Shared} {l b : Addr} {N : Nat} {Q : Value → Shared → Prop} (hu : A.units < cLine) (e : Nat → Bool) (I : Shared → Prop) (hl : ListB prog w A E l b N e I)
    (fin : ∀ s, I s → Q (.bool (((List.range N).all e))) s) (h : I s) : wpAny (model prog w) A (richCompare .Eq (.ref l) (.ref b)) Q E s := by
  obtain ⟨items, items2, n, n2, hl1, hb1, _, _, _⟩ := hl _ h
  refine wpAny_richCompare_same_room (op := .Eq) ⟨_, hl1, rfl⟩ ⟨_, hb1, rfl⟩ F.slot_list_eq (GQ.call_here F.slot_list_eq ⟨_, hl1, rfl⟩ F.entry_list_eq (F.args_list_eq_2 _ _) ?_) hu
  exact list_eqB_eq (R := wants (fun v s' => v ≠ .notImplemented ∧ Q v s') E) l b N e I hl (fun s' q => ⟨(fun x => nomatch x), fin s' q⟩) h

/-- at each turn the two lists are read anew: N items each, of the i-th two e tells whether they are equal -/
theorem eq_loopB_ne (l b : Addr) (N : Nat) (e : Nat → Bool) (I : Shared → Prop) (hl : ListB prog w A (fun e s' => R (.error e) s') l b N e I)
    (fin : ∀ s, I s → R (.ok (.ret (.bool (!((List.range N).all e))))) s) (k : Nat) :
    ∀ i : Nat, N - i = k → i ≤ N → ((List.range N).take i).all e = true → ∀ s, I s →
      wpAny (model prog w) A.in1 (Builtin.«list.__eq__.loop» ⟨[.ref l, .ref b, rawInt i, rawInt 3], []⟩) (GQ.FinOf prog w A R) (fun e s' => R (.error e) s') s := by
  induction k with
  | zero =>
    intro i hk hi ht s h
    obtain ⟨items, items2, n, n2, hl1, hb1, hs1, hs2, _⟩ := hl _ h
    have hi' : i = N := by omega
    have hR : R (.ok (.ret (.bool (! true)))) s := by
      have := fin s h
      rw [hi', List.take_of_length_le (by simp)] at ht
      rwa [ht] at this
    obtain ⟨hp, g, d, tk, os⟩ := s
    wp_walk using wpAny_loadPart' hl1, wpAny_loadPart' hb1
    have hi1 : items[((i : Nat) : Int).toNat]? = none := by simp; omega
    have hi2 : items2[((i : Nat) : Int).toNat]? = none := by simp; omega
    rw [hi1, hi2]
    wp_walk using wpAny_loadPart' hl1, wpAny_loadPart' hb1
    show R (.ok (.ret (.bool (items.size != items2.size)))) _
    rw [hs1, hs2]
    simpa using hR
  | succ k ih =>
    intro i hk hi ht s h
    obtain ⟨items, items2, n, n2, hl1, hb1, hs1, hs2, turn⟩ := hl _ h
    have hlt : i < items.size := by omega
    have hlt2 : i < items2.size := by omega
    have htn := turn i hlt hlt2
    obtain ⟨hp, g, d, tk, os⟩ := s
    wp_walk using wpAny_loadPart' hl1, wpAny_loadPart' hb1
    have hi1 : items[((i : Nat) : Int).toNat]? = some items[i] := by simp [hlt]
    have hi2 : items2[((i : Nat) : Int).toNat]? = some items2[i] := by simp [hlt2]
    have hc : ((i : Int) + 1) = ((i + 1 : Nat) : Int) := by omega
    rw [hi1, hi2]
    refine wpAny_bind (wpAny_mono htn (fun r s2 h2 => ?_) fun _ _ x => x)
    obtain ⟨hr, h2⟩ := h2
    have hd : (List.range N).drop i = i :: (List.range N).drop (i + 1) := by
      rw [List.drop_eq_getElem_cons (by simp; omega)]
      simp
    cases hb' : e i with
    | true =>
      rw [hb'] at hr
      subst hr
      have ht2 : ((List.range N).take (i + 1)).all e = true := by
        rw [List.take_add_one, List.all_append, ht]
        simp [show i < N by omega, hb']
      have hrec := ih (i + 1) (by omega) (by omega) ht2 s2 h2
      obtain ⟨hp2, g2, d2, tk2, os2⟩ := s2
      wp_walk
      rw [hc]
      exact ⟨plainId_quiet plain_eq_loop _, codeAny_builtin entry_eq_loop (by
        rw [Around.under_plainId plain_eq_loop _]
        exact hrec)⟩
    | false =>
      rw [hb'] at hr
      subst hr
      have hR := fin s2 h2
      have hall : (List.range N).all e = false := by
        rw [← List.take_append_drop i (List.range N), List.all_append, ht, hd, List.all_cons, hb']
        rfl
      rw [hall] at hR
      obtain ⟨items', items2', n', n2', hl2, hb2, hs1', hs2', _⟩ := hl _ h2
      obtain ⟨hp2, g2, d2, tk2, os2⟩ := s2
      have hi1' : items'[((i : Nat) : Int).toNat]? = some (items'[i]'(by omega)) := by simp [show i < items'.size by omega]
      have hi2' : items2'[((i : Nat) : Int).toNat]? = some (items2'[i]'(by omega)) := by simp [show i < items2'.size by omega]
      wp_walk using wpAny_loadPart' hl2, wpAny_loadPart' hb2
      rw [hi1', hi2']
      wp_walk
      simpa using hR
theorem list_eqB_ne (l b : Addr) (N : Nat) (e : Nat → Bool) (I : Shared → Prop) (hl : ListB prog w A (fun e s' => R (.error e) s') l b N e I)
    (fin : ∀ s, I s → R (.ok (.ret (.bool (!((List.range N).all e))))) s) {s : Shared} (h : I s) :
    wpAny (model prog w) A.in1 (Builtin.«list.__ne__» ⟨[.ref l, .ref b], []⟩) (GQ.FinOf prog w A R) (fun e s' => R (.error e) s') s := by
  obtain ⟨items, items2, n, n2, hl1, hb1, hs1, hs2, _⟩ := hl _ h
  have hrec := eq_loopB_ne (A := A) (R := R) l b N e I hl fin _ 0 rfl (Nat.zero_le _) rfl s h
  obtain ⟨hp, g, d, tk, os⟩ := s
  have f3 := AutoSeq1.sub_list_list
  have hne : ¬ (items.size != items2.size) = true := by simp [hs1, hs2]
  wp_walk using wpAny_loadPart' hl1, wpAny_loadPart' hb1
  exact ⟨plainId_quiet plain_eq_loop _, codeAny_builtin entry_eq_loop (by
    rw [Around.under_plainId plain_eq_loop _]
    exact hrec)⟩
theorem rc_listB_ne {E : Value → Shared → Prop} {s : Shared} {l b : Addr} {N : Nat} {Q : Value → Shared → Prop} (hu : A.units < cLine) (e : Nat → Bool) (I : Shared → Prop) (hl : ListB prog w A E l b N e I)
    (fin : ∀ s, I s → Q (.bool (!((List.range N).all e))) s) (h : I s) : wpAny (model prog w) A (richCompare .NotEq (.ref l) (.ref b)) Q E s := by
  obtain ⟨items, items2, n, n2, hl1, hb1, _, _, _⟩ := hl _ h
  refine wpAny_richCompare_same_room (op := .NotEq) ⟨_, hl1, rfl⟩ ⟨_, hb1, rfl⟩ F.slot_list_ne (GQ.call_here F.slot_list_ne ⟨_, hl1, rfl⟩ F.entry_list_ne (F.args_list_ne_2 _ _) ?_) hu
  exact list_eqB_ne (R := wants (fun v s' => v ≠ .notImplemented ∧ Q v s') E) l b N e I hl (fun s' q => ⟨(fun x => nomatch x), fin s' q⟩) h
end
end Fb

namespace Fb
open PySem PySem.Spec PyProof.Rows L2
/-- what == of two values tells, by the abstract heap -/
abbrev EqvB := V → V → Bool → Hp → Prop
/-- == tells what D says, and nothing else changes -/
def EqB (X : Cx) (n : Nat) (D : EqvB) : Prop :=
  ∀ (A : Around) (pins : List (Addr × Obj)) (s : Shared) (σ : L2.St) (H : Hp) (x y : V) (u v : Value) (b : Bool), Sub X n A → Inv X pins σ H s → RelV x u → RelV y v → D x y b H →
    wpAny (model X.prog X.w) A (eqBool u v) (fun r s' => r = b ∧ Inv X pins σ H s') X.xe s
def RcB (X : Cx) (n : Nat) (op : CmpOp) (g : Bool → Bool) (D : EqvB) : Prop :=
  ∀ (A : Around) (pins : List (Addr × Obj)) (s : Shared) (σ : L2.St) (H : Hp) (x y : V) (u v : Value) (b : Bool), Sub X n A → Inv X pins σ H s → RelV x u → RelV y v → D x y b H →
    wpAny (model X.prog X.w) A (richCompare op u v) (fun r s' => r = .bool (g b) ∧ Inv X pins σ H s') X.xe s
def Refl (D : EqvB) : Prop := ∀ x b H, D x x b H → b = true
section
variable {X : Cx} {n : Nat} {D : EqvB}
theorem RcB.eqB (h : RcB X n .Eq id D) (hr : ∀ x y b H, D x y b H → ∃ a c, x = .ref a ∧ y = .ref c) (hf : Refl D) : EqB X n D := by
  intro A pins s σ H x y u v b sb I rx ry d
  obtain ⟨a, c, rfl, rfl⟩ := hr _ _ _ _ d
  cases rx
  cases ry
  by_cases hab : a = c
  · subst hab
    rw [hf _ _ _ d]
    exact SeqAt.EqAt.same (A := A) (s := s) (.ref a) X.prog X.w X.xe _ ⟨rfl, I⟩
  · refine GQ.eqBool_refG hab (wpAny_mono (h A pins s σ H (.ref a) (.ref c) _ _ b sb I rfl rfl d) (fun r s' q => ?_) fun _ _ x => x)
    obtain ⟨hr', q⟩ := q
    exact ⟨b, hr', rfl, q⟩
/-- instances of the class at C with the text's own ==, whose promise sp tells b and changes nothing -/
def DInsB (C : Addr) (sp : Sp) : EqvB := fun x y b H => ∃ a c dx dy fs gs, x = .ref a ∧ y = .ref c ∧ H a = some (.ins C dx fs) ∧ H c = some (.ins C dy gs) ∧ sp [x, y] H (fun v H' => v = .bl b ∧ H' = H) E0
theorem rcB_ins {C f : Addr} {fd : FuncData} {ps : List Str} {sp : Sp} (F : FnOk X.prog X.w X.K X.mg X.base CX0 n f fd ps sp)
    (hs : PySem.W.findIn X.K (.ref C) "__eq__" = some (some (.ref f))) (hf : PySem.W.isFn X.K (.ref f) = true) (hb : Binds X.K fd ps []) : RcB X n .Eq id (DInsB C sp) := by
  intro A pins s σ H x y u v b sb I rx ry d
  obtain ⟨a, c, dx, dy, fs, gs, rfl, rfl, ha, hc, hsp⟩ := d
  cases rx
  cases ry
  obtain ⟨mA, J, _⟩ := ins_get I.hok ha
  obtain ⟨mB, J', _⟩ := ins_get I.hok hc
  obtain ⟨od, J, _⟩ := J.look
  obtain ⟨od', J', _⟩ := J'.look
  obtain ⟨m, hF⟩ := I.fr
  refine PySem.W.cmp_K (op := .Eq) (tb := .ref C) sb.room.units0 hF I.ok.mod.kin J J'.type (by simp [PySem.W.notFirst]) hs hf ?_
  have e0 : Env0 X.prog X.w X.K X.mg X.base A X.stack s H := by
    have e := I.env0
    exact ⟨by rw [sb.fr]; exact e.frames, e.mod, e.bs, e.bsz, e.funs, e.frf, e.hok, e.bare⟩
  refine wpAny_mono (run_in F sb.room e0 hb I (vs := [.ref a, .ref c]) (.cons rfl (.cons rfl .nil)) hsp) (fun r s' z => ?_) fun _ _ e => e
  obtain ⟨z1, H', I', rz, rfl, rfl⟩ := z
  cases rz
  exact ⟨rfl, I'⟩
def DListB (D : EqvB) : EqvB := fun x y b H => ∃ a c xs ys, x = .ref a ∧ y = .ref c ∧ H a = some (.lst xs) ∧ H c = some (.lst ys) ∧ xs.length = ys.length ∧
  ∃ e : Nat → Bool, (∀ (i : Nat) x y, xs[i]? = some x → ys[i]? = some y → D x y (e i) H) ∧ b = (List.range xs.length).all e
theorem refl_list (h : Refl D) : Refl (DListB D) := by
  intro x b H d
  obtain ⟨a, c, xs, ys, rfl, e, ha, hc, _, f, hf, rfl⟩ := d
  cases e
  rw [ha] at hc
  cases hc
  rw [List.all_eq_true]
  intro i hi
  have hi : i < xs.length := by simpa using hi
  exact h _ _ _ (hf i xs[i] xs[i] (List.getElem?_eq_getElem hi) (List.getElem?_eq_getElem hi))
theorem turnB (h : EqB X n D) {A : Around} (sb : Sub X (n + 1) A) {pins : List (Addr × Obj)} {σ : L2.St} {H : Hp} {xs ys : List V} {its its2 : List Value} {e : Nat → Bool} (p : ∀ (i : Nat) x y, xs[i]? = some x → ys[i]? = some y → D x y (e i) H) (r : Vals xs its) (r2 : Vals ys its2)
    (i : Nat) (h1 : i < its.toArray.size) (h2 : i < its2.toArray.size) (s' : Shared) (l : Inv X pins σ H s') :
    wpAny (model X.prog X.w) A.in1 (eqBool its.toArray[i] its2.toArray[i]) (fun r s2 => r = e i ∧ Inv X pins σ H s2) X.xe s' := by
  have g1 : its[i]? = some its.toArray[i] := by
    have h1' : i < its.length := by simpa using h1
    rw [List.getElem?_eq_getElem h1'] <;> simp
  have g2 : its2[i]? = some its2.toArray[i] := by
    have h2' : i < its2.length := by simpa using h2
    rw [List.getElem?_eq_getElem h2'] <;> simp
  have k1 : i < xs.length := by rw [r.length]; simpa using h1
  have k2 : i < ys.length := by rw [r2.length]; simpa using h2
  obtain ⟨u, hu, ru⟩ := r.get (List.getElem?_eq_getElem k1)
  obtain ⟨v, hv, rv⟩ := r2.get (List.getElem?_eq_getElem k2)
  rw [g1] at hu
  rw [g2] at hv
  rw [Option.some.inj hu, Option.some.inj hv]
  exact h A.in1 pins s' σ H _ _ u v _ sb.in1 l ru rv (p i _ _ (List.getElem?_eq_getElem k1) (List.getElem?_eq_getElem k2))
theorem rcB_list (h : EqB X n D) : RcB X (n + 1) .Eq id (DListB D) := by
  intro A pins s σ H x y u v b sb I rx ry d
  obtain ⟨a, c, xs, ys, rfl, rfl, ha, hc, hl, e, p, rfl⟩ := d
  cases rx
  cases ry
  refine rc_listB_eq (N := xs.length) sb.room.units0 e (fun s' => Inv X pins σ H s') (fun s' q => ?_) (fun s' q => ⟨rfl, q⟩) I
  obtain ⟨z, its, k, r, ea⟩ := q.hok a _ ha
  obtain ⟨z2, its2, k2, r2, ec⟩ := q.hok c _ hc
  exact ⟨its.toArray, its2.toArray, k, k2, ea, ec, by rw [List.size_toArray, ← r.length], by rw [List.size_toArray, ← r2.length, hl], fun i h1 h2 => turnB h sb p r r2 i h1 h2 s' q⟩
theorem rcB_listN (h : EqB X n D) : RcB X (n + 1) .NotEq not (DListB D) := by
  intro A pins s σ H x y u v b sb I rx ry d
  obtain ⟨a, c, xs, ys, rfl, rfl, ha, hc, hl, e, p, rfl⟩ := d
  cases rx
  cases ry
  refine rc_listB_ne (N := xs.length) sb.room.units0 e (fun s' => Inv X pins σ H s') (fun s' q => ?_) (fun s' q => ⟨rfl, q⟩) I
  obtain ⟨z, its, k, r, ea⟩ := q.hok a _ ha
  obtain ⟨z2, its2, k2, r2, ec⟩ := q.hok c _ hc
  exact ⟨its.toArray, its2.toArray, k, k2, ea, ec, by rw [List.size_toArray, ← r.length], by rw [List.size_toArray, ← r2.length, hl], fun i h1 h2 => turnB h sb p r r2 i h1 h2 s' q⟩
theorem eqB_list (h : EqB X n D) (hf : Refl D) : EqB X (n + 1) (DListB D) := (rcB_list h).eqB (fun _ _ _ _ d => let ⟨a, c, _, _, hx, hy, _⟩ := d; ⟨a, c, hx, hy⟩) (refl_list hf)
/-- x == y, x != y as expressions -/
def rEqB (g : Bool → Bool) (D : EqvB) : R2 := fun x y H Q => ∃ b, D x y b H ∧ Q (.bl (g b)) H
theorem op_eqB (h : RcB X n .Eq id D) (hr : Room n X.A) : OpR X (compareOp .Eq) (rEqB id D) := by
  intro pins s σ H x y v u Q I rx ry hq
  obtain ⟨b, d, q⟩ := hq
  show wpAny (model X.prog X.w) X.A (richCompare .Eq v u) (EP X pins σ Q) X.xe s
  refine wpAny_mono (h X.A pins s σ H x y v u b ⟨hr, rfl⟩ I rx ry d) (fun r s' z => ?_) fun _ _ x => x
  obtain ⟨rfl, I'⟩ := z
  exact ⟨.bl b, H, I', rfl, q⟩
theorem op_neB (h : RcB X n .NotEq not D) (hr : Room n X.A) : OpR X (compareOp .NotEq) (rEqB not D) := by
  intro pins s σ H x y v u Q I rx ry hq
  obtain ⟨b, d, q⟩ := hq
  show wpAny (model X.prog X.w) X.A (richCompare .NotEq v u) (EP X pins σ Q) X.xe s
  refine wpAny_mono (h X.A pins s σ H x y v u b ⟨hr, rfl⟩ I rx ry d) (fun r s' z => ?_) fun _ _ x => x
  obtain ⟨rfl, I'⟩ := z
  exact ⟨.bl (!b), H, I', rfl, q⟩
end
/-! ### tuples, != with equal items -/
section
open PySem.SeqAt MeetsSeq MeetsSeq2 MeetsSeq3 SeqRoads2
open AutoSeq1 (wpAny_loadPart')
variable {prog : Program} {w : World} {A : Around} {R : Result → Shared → Prop}
theorem tuple_neG (l b : Addr) (items items2 : Array Value) (n n2 : Nat) (dd dd2 : Option Addr) (sl sl2 : Array (Option Value)) (hsz : items.size = items2.size) (I : Shared → Prop)
    (turn : ∀ i (h1 : i < items.size) (h2 : i < items2.size) s, I s → wpAny (model prog w) A.in1 (eqBool items[i] items2[i]) (fun r s' => r = true ∧ I s') (fun e s' => R (.error e) s') s)
    (fin : ∀ s, I s → R (.ok (.ret (.bool false))) s) {s : Shared} (hl1 : s.heap.get? l = some { cls := .type "tuple", dict := dd, data := .seq items n, slots := sl }) (hb1 : s.heap.get? b = some { cls := .type "tuple", dict := dd2, data := .seq items2 n2, slots := sl2 }) (h : I s) :
    wpAny (model prog w) A.in1 (Builtin.«tuple.__ne__» ⟨[.ref l, .ref b], []⟩) (GQ.FinOf prog w A R) (fun e s' => R (.error e) s') s := by
  have f2 := AutoSeq1.sub_tuple_tuple
  have hZ : (items.toList.zip items2.toList).length = items.size := by simp [hsz]
  have h0 := h
  obtain ⟨hp, g, d, tk, os⟩ := s
  wp_walk using wpAny_loadPart' hl1, wpAny_loadPart' hb1, wpAny_forIn_list _ (fun rest b s' => b.1 = none ∧ ∃ i, rest = (items.toList.zip items2.toList).drop i ∧ i ≤ items.size ∧ I s') _
  case turn =>
    rintro ⟨y, x⟩ rest b s' ⟨hb', i, hz, hi, hI⟩
    have hlt : i < (items.toList.zip items2.toList).length := by
      rcases Nat.lt_or_ge i (items.toList.zip items2.toList).length with h' | h'
      · exact h'
      · rw [List.drop_of_length_le h'] at hz; cases hz
    have h1 : i < items.size := hZ ▸ hlt
    have h2 : i < items2.size := hsz ▸ h1
    rw [List.drop_eq_getElem_cons hlt] at hz
    injection hz with hyx hrest
    have hy : y = items[i] := by have := congrArg Prod.fst hyx; simpa using this
    have hx : x = items2[i] := by have := congrArg Prod.snd hyx; simpa using this
    subst hy hx
    refine wpAny_bind (wpAny_mono (turn i h1 h2 s' hI) (fun r s2 q2 => ?_) fun _ _ x => x)
    obtain ⟨hr, q2⟩ := q2
    subst hr
    wp_walk
    exact ⟨rfl, i + 1, hrest, h1, q2⟩
  case fin =>
    rintro ⟨b1, b2⟩ s' ⟨hb', i, hz, hi, hI⟩
    simp only at hb'
    subst hb'
    have hR : R (.ok (.ret (.bool false))) s' := fin s' hI
    wp_walk
    simpa [Builtin.Tuple.tupleCompareSizes, hsz] using hR
  case h =>
    exact ⟨rfl, 0, rfl, Nat.zero_le _, h0⟩
theorem rc_tupN {E : Value → Shared → Prop} {s : Shared} {l b : Addr} {items items2 : Array Value} {Q : Value → Shared → Prop} (hsz : items.size = items2.size) (hu : A.units < cLine) (I : Shared → Prop)
    (hl : s.heap.IsTuple l items) (hb : s.heap.IsTuple b items2)
    (turn : ∀ i (h1 : i < items.size) (h2 : i < items2.size) s, I s → wpAny (model prog w) A.in1 (eqBool items[i] items2[i]) (fun r s' => r = true ∧ I s') E s)
    (fin : ∀ s, I s → Q (.bool false) s) (h : I s) : wpAny (model prog w) A (richCompare .NotEq (.ref l) (.ref b)) Q E s := by
  obtain ⟨⟨cls, dd, data, sl⟩, ho, hc, n, hd⟩ := id hl
  obtain ⟨⟨cls2, dd2, data2, sl2⟩, ho2, hc2, n2, hd2⟩ := id hb
  simp only at hc hd hc2 hd2
  subst hc hd hc2 hd2
  refine wpAny_richCompare_same_room (op := .NotEq) ⟨_, ho, rfl⟩ ⟨_, ho2, rfl⟩ F.slot_tuple_ne (GQ.call_here F.slot_tuple_ne ⟨_, ho, rfl⟩ F.entry_tuple_ne (F.args_tuple_ne_2 _ _) ?_) hu
  exact tuple_neG (R := wants (fun v s' => v ≠ .notImplemented ∧ Q v s') E) l b items items2 n n2 dd dd2 sl sl2 hsz I turn (fun s' q => ⟨(fun x => nomatch x), fin s' q⟩) ho ho2 h
end
section
variable {X : Cx} {n : Nat} {D : EqvB}
/-- two tuples of as many items, each two equal -/
def DTupT (K : PySem.W.Frag) (D : EqvB) : EqvB := fun x y b H => ∃ a c xs ys, x = .ref a ∧ y = .ref c ∧ SqT K H a xs ∧ SqT K H c ys ∧ xs.length = ys.length ∧ (∀ (i : Nat) x y, xs[i]? = some x → ys[i]? = some y → D x y true H) ∧ b = true
theorem rcB_tupN (h : EqB X n D) : RcB X (n + 1) .NotEq not (DTupT X.K D) := by
  intro A pins s σ H x y u v b sb I rx ry d
  obtain ⟨a, c, xs, ys, rfl, rfl, ha, hc, hl, p, rfl⟩ := d
  cases rx
  cases ry
  obtain ⟨its, r, e, z⟩ := I.tuple ha
  obtain ⟨its2, r2, e2, z2⟩ := I.tuple hc
  have hsz : its.toArray.size = its2.toArray.size := by rw [List.size_toArray, List.size_toArray, ← r.length, ← r2.length]; exact hl
  exact rc_tupN hsz sb.room.units0 (fun s' => Inv X pins σ H s') e e2 (fun i h1 h2 s' q => turnB (e := fun _ => true) h sb p r r2 i h1 h2 s' q) (fun s' q => ⟨rfl, q⟩) I
end
end Fb

namespace Fb
open PySem PySem.Spec PyProof.Rows L2
/-- a suite's if without else, both ways told by one condition -/
theorem ite_mid {c A : Prop} [Decidable c] {Rest : L2.St → Hp → Prop} {σ : L2.St} {H : Hp} (M : L2.St → Hp → Prop) (h1 : c → (∀ σ H, M σ H → Rest σ H) → A) (h2 : ¬ c → M σ H) (h3 : ∀ σ H, M σ H → Rest σ H) : if c then A else Rest σ H := by
  by_cases h : c
  · rw [if_pos h]
    exact h1 h h3
  · rw [if_neg h]
    exact h3 _ _ (h2 h)
theorem cr_sumK {X : Cx} {K : PySem.W.Frag} (hK : X.K = K) (hc : X.calm = true) : CallR X (.builtin "sum") (rSum K) := hK ▸ cr_sum hc
theorem none_back {H H' : Hp} {a p : Addr} {f : Nat} (s : Same (hid a H) (hid a H')) (w : WellAt H' a f) (h : H' p = none) : H p = none := by
  have hp : p ≠ a := w.ne h
  cases e : H p with
  | none => rfl
  | some o =>
    have := s p o (by rw [hid_ne hp]; exact e)
    rw [hid_ne hp, h] at this
    cases this
/-- a list of weights of the law's own, beside the well -/
structure WtAt (H : Hp) (a : Addr) (m : Nat) (B : Int) (f : Nat) (pw : Addr) (ns : List Int) (H' : Hp) : Prop where
  new : H pw = none
  ne : pw ≠ a
  at_ : H' pw = some (.lst (ns.map V.int))
  len : ns.length = m
  bd : ∀ x ∈ ns, 0 ≤ x ∧ x ≤ B
  same : Same (hid a H) (hid pw (hid a H'))
  well : WellAt H' a f
theorem WtAt.step {H : Hp} {a : Addr} {m : Nat} {B : Int} {f f' : Nat} {pw : Addr} {ns : List Int} {H1 H2 : Hp} (h : WtAt H a m B f pw ns H1) (s : Same (hid a H1) (hid a H2)) (w : WellAt H2 a f') : WtAt H a m B f' pw ns H2 := by
  refine ⟨h.new, h.ne, ?_, h.len, h.bd, h.same.trans (hid_mono s), w⟩
  have := s pw _ (by rw [hid_ne h.ne]; exact h.at_)
  rwa [hid_ne h.ne] at this
theorem WtAt.upB {H : Hp} {a : Addr} {m : Nat} {B B' : Int} {f : Nat} {pw : Addr} {ns : List Int} {H1 : Hp} (h : WtAt H a m B f pw ns H1) (l : B ≤ B') : WtAt H a m B' f pw ns H1 :=
  ⟨h.new, h.ne, h.at_, h.len, fun x hx => ⟨(h.bd x hx).1, Int.le_trans (h.bd x hx).2 l⟩, h.same, h.well⟩
theorem WtAt.set {H : Hp} {a : Addr} {m : Nat} {B : Int} {f : Nat} {pw : Addr} {ns : List Int} {H1 : Hp} (h : WtAt H a m B f pw ns H1) (j : Nat) {v : Int} (v0 : 0 ≤ v) (v1 : v ≤ B) : WtAt H a m B f pw (ns.set j v) (upd H1 pw (.lst ((ns.map V.int).set j (.int v)))) := by
  refine ⟨h.new, h.ne, by rw [upd_same, ← List.map_set], by rw [List.length_set, h.len], fun x hx => ?_, by rw [hid2_upd h.ne]; exact h.same, h.well.upd h.ne⟩
  rcases List.mem_or_eq_of_mem_set hx with e | e
  · exact h.bd x e
  · subst e
    exact ⟨v0, v1⟩
/-! ### heaps -/
/-- a heap as the law draws it -/
structure HeapOk (qs : List Rat) : Prop where
  nn : ∀ q ∈ qs, 0 ≤ q
  den : ∃ S : Nat, 0 < S ∧ S ≤ 1000 ∧ ∀ q ∈ qs, q.den ∣ S
  one : rsum qs = 1
theorem rsum_div (S : Int) : ∀ ns : List Int, rsum (ns.map fun x => Rat.divInt x S) = Rat.divInt ns.sum S
  | [] => by simp [rsum]
  | x :: r => by
    rw [List.map_cons, List.sum_cons, divInt_add_same, ← rsum_div S r]
    rfl
theorem sum_nn : ∀ {ns : List Int}, (∀ x ∈ ns, 0 ≤ x) → 0 ≤ ns.sum
  | [], _ => by simp
  | x :: r, h => by
    rw [List.sum_cons]
    have := h x List.mem_cons_self
    have := sum_nn (ns := r) fun y hy => h y (List.mem_cons_of_mem _ hy)
    omega
theorem sum_le {B : Int} : ∀ {ns : List Int}, (∀ x ∈ ns, x ≤ B) → ns.sum ≤ ns.length * B
  | [], _ => by simp
  | x :: r, h => by
    rw [List.sum_cons, List.length_cons]
    have := h x List.mem_cons_self
    have := sum_le (ns := r) fun y hy => h y (List.mem_cons_of_mem _ hy)
    have e : ((r.length + 1 : Nat) : Int) * B = (r.length : Int) * B + B := by
      rw [Int.natCast_add, Int.add_mul]
      simp
    rw [e]
    omega
theorem sum_ge : ∀ {ns : List Int}, (∀ x ∈ ns, 0 ≤ x) → ∀ {x : Int}, x ∈ ns → x ≤ ns.sum
  | y :: r, h, x, hx => by
    rw [List.sum_cons]
    have h0 := h y List.mem_cons_self
    have hr := sum_nn (ns := r) fun y hy => h y (List.mem_cons_of_mem _ hy)
    rcases List.mem_cons.mp hx with e | e
    · subst e
      omega
    · have := sum_ge (ns := r) (fun y hy => h y (List.mem_cons_of_mem _ hy)) e
      omega
theorem den_dvd_bot {t : Int} {S : Nat} (h : 0 < S) : (Rat.divInt t (S : Int)).den ∣ S := by
  rw [Rat.den_divInt, if_neg (by omega)]
  simp only [Int.natAbs_natCast]
  refine Nat.div_dvd_of_dvd ?_
  have := Int.gcd_dvd_left (S : Int) t
  exact Int.natCast_dvd_natCast.mp this
theorem heap_ok {ns : List Int} {B : Int} (hb : ∀ x ∈ ns, 0 ≤ x ∧ x ≤ B) (h0 : 0 < ns.sum) (hl : ns.length ≤ 12) (hB : 0 ≤ B ∧ B ≤ 60) : HeapOk (ns.map fun x => Rat.divInt x ns.sum) := by
  have hS : ((ns.sum.toNat : Nat) : Int) = ns.sum := by omega
  have le : ns.sum ≤ 1000 := by
    have := sum_le fun x hx => (hb x hx).2
    have := Int.mul_le_mul (a := (ns.length : Int)) (b := B) (c := 12) (d := 60) (by omega) hB.2 hB.1 (by decide)
    omega
  refine ⟨fun q hq => ?_, ⟨ns.sum.toNat, by omega, by omega, fun q hq => ?_⟩, ?_⟩
  · obtain ⟨x, hx, rfl⟩ := List.mem_map.mp hq
    exact (Rat.divInt_nonneg_iff_of_pos_right h0).mpr (hb x hx).1
  · obtain ⟨x, hx, rfl⟩ := List.mem_map.mp hq
    rw [← hS]
    exact den_dvd_bot (by omega)
  · rw [rsum_div, Rat.divInt_self' (by omega)]
end Fb

/-! Part A11: pairs that stand for fractions, vectors and tables of them; a list compared with []; the mathematics of filling. -/
namespace Fb
open PySem PySem.Spec PyProof.Rows L2
section
variable {X : Cx}
/-- a list against [] -/
def rNil (K : PySem.W.Frag) (g : Bool → Bool) : R2 := fun x y H Q => ∃ a c xs, x = .ref a ∧ y = .ref c ∧ SqL K H a xs ∧ SqL K H c [] ∧ Q (.bl (g xs.isEmpty)) H
theorem op_eqNil (hu : X.A.units < cLine) : OpR X (compareOp .Eq) (rNil X.K id) := by
  intro pins s σ H x y v u Q I rx ry h
  obtain ⟨a, c, xs, rfl, rfl, ha, hc, q⟩ := h
  cases rx
  cases ry
  obtain ⟨its, r, hl, _⟩ := I.list ha
  obtain ⟨its2, r2, hl2, _⟩ := I.list hc
  cases r2
  show wpAny (model X.prog X.w) X.A (richCompare .Eq (.ref a) (.ref c)) (EP X pins σ Q) X.xe s
  cases r with
  | nil => exact SeqAt.RcAt.lists (e := fun _ => true) hl.isList hl2.isList rfl hu (fun j h => absurd h (by simp)) X.prog X.w X.xe _ ⟨.bl true, H, I, rfl, q⟩
  | cons _ _ => exact SeqAt.RcAt.lists_lengths hl.isList hl2.isList (by simp) hu X.prog X.w X.xe _ ⟨.bl false, H, I, rfl, q⟩
theorem op_neNil (hu : X.A.units < cLine) : OpR X (compareOp .NotEq) (rNil X.K not) := by
  intro pins s σ H x y v u Q I rx ry h
  obtain ⟨a, c, xs, rfl, rfl, ha, hc, q⟩ := h
  cases rx
  cases ry
  obtain ⟨its, r, hl, _⟩ := I.list ha
  obtain ⟨its2, r2, hl2, _⟩ := I.list hc
  cases r2
  show wpAny (model X.prog X.w) X.A (richCompare .NotEq (.ref a) (.ref c)) (EP X pins σ Q) X.xe s
  cases r with
  | nil => exact SeqAt.RcNeAt.lists (e := fun _ => true) hl.isList hl2.isList rfl hu (fun j h => absurd h (by simp)) X.prog X.w X.xe _ ⟨.bl false, H, I, rfl, q⟩
  | cons _ _ => exact SeqAt.RcNeAt.lists_lengths hl.isList hl2.isList (by simp) hu X.prog X.w X.xe _ ⟨.bl true, H, I, rfl, q⟩
theorem op_eqNilK {K : PySem.W.Frag} (hK : X.K = K) (hu : X.A.units < cLine) : OpR X (compareOp .Eq) (rNil K id) := hK ▸ op_eqNil hu
end
/-! ### pairs -/
def IsPr (H : Hp) (v : V) (q : Rat) : Prop := IsTup2 H v q.num (q.den : Int)
theorem IsPr.mono {H H' : Hp} {v : V} {q : Rat} (h : IsPr H v q) (s : Same H H') : IsPr H' v q := IsTup2.mono h s
def IsPrs (H : Hp) (v : V) (qs : List Rat) : Prop := ∃ p vs, v = .ref p ∧ H p = some (.lst vs) ∧ AllAre (IsPr H) vs qs
theorem IsPrs.mono {H H' : Hp} {v : V} {qs : List Rat} (h : IsPrs H v qs) (s : Same H H') : IsPrs H' v qs := by
  obtain ⟨p, vs, e, h, a⟩ := h
  exact ⟨p, vs, e, s _ _ h, a.imp fun _ _ r => r.mono s⟩
/-- tuples stay -/
def TS (H H' : Hp) : Prop := ∀ p xs, H p = some (.tup xs) → H' p = some (.tup xs)
theorem TS.rfl' {H : Hp} : TS H H := fun _ _ h => h
theorem TS.trans {H H1 H2 : Hp} (a : TS H H1) (b : TS H1 H2) : TS H H2 := fun p xs h => b p xs (a p xs h)
theorem TS.same {H H' : Hp} (s : Same H H') : TS H H' := fun p xs h => s p _ h
theorem TS.well {H H' : Hp} {a : Addr} {n : Nat} (w : WellAt H a n) (s : Same (hid a H) (hid a H')) : TS H H' := fun p xs h => hid_same _ _ (s p _ (hid_keep w h (fun _ => nofun)))
theorem TS.lst {H : Hp} {p : Addr} {ys : List V} {o : HO} (h : H p = some (.lst ys)) : TS H (upd H p o) := fun b xs e => by
  rw [upd_ne (fun z => by rw [z, h] at e; cases e)]
  exact e
theorem IsPr.ts {H H' : Hp} {v : V} {q : Rat} (h : IsPr H v q) (s : TS H H') : IsPr H' v q := by
  obtain ⟨p, e, h⟩ := h
  exact ⟨p, e, s _ _ h⟩
theorem IsTup2.ts {H H' : Hp} {v : V} {t b : Int} (h : IsTup2 H v t b) (s : TS H H') : IsTup2 H' v t b := by
  obtain ⟨p, e, h⟩ := h
  exact ⟨p, e, s _ _ h⟩
/-- a list of m pairs -/
def VecAt (H : Hp) (p : Addr) (m : Nat) (h : Nat → Rat) : Prop := ∃ vs, H p = some (.lst vs) ∧ vs.length = m ∧ ∀ (i : Nat) v, vs[i]? = some v → IsPr H v (h i)
theorem VecAt.ts {H H' : Hp} {p : Addr} {m : Nat} {h : Nat → Rat} (v : VecAt H p m h) (s : TS H H') (e : H' p = H p) : VecAt H' p m h := by
  obtain ⟨vs, ev, l, r⟩ := v
  exact ⟨vs, by rw [e]; exact ev, l, fun i v hv => (r i v hv).ts s⟩
theorem VecAt.at {H : Hp} {p : Addr} {m : Nat} {h : Nat → Rat} (v : VecAt H p m h) {j : Nat} (hj : j < m) : ∃ vs x, H p = some (.lst vs) ∧ vs.length = m ∧ vs[j]? = some x ∧ IsPr H x (h j) := by
  obtain ⟨vs, ev, l, r⟩ := v
  have hj' : j < vs.length := by omega
  exact ⟨vs, _, ev, l, List.getElem?_eq_getElem hj', r j _ (List.getElem?_eq_getElem hj')⟩
def put (h : Nat → Rat) (j : Nat) (z : Rat) : Nat → Rat := fun i => if i = j then z else h i
theorem VecAt.set {H : Hp} {p : Addr} {m : Nat} {h : Nat → Rat} {vs : List V} {j : Nat} {x : V} {z : Rat} (v : VecAt H p m h) (e : H p = some (.lst vs)) (hx : IsPr H x z) : VecAt (upd H p (.lst (vs.set j x))) p m (put h j z) := by
  obtain ⟨vs', ev, l, r⟩ := v
  rw [e] at ev
  cases ev
  have s : TS H (upd H p (.lst (vs.set j x))) := TS.lst e
  refine ⟨_, upd_same, by rw [List.length_set, l], fun i y hy => ?_⟩
  unfold put
  rw [List.getElem?_set] at hy
  by_cases hij : j = i
  · subst hij
    rw [if_pos rfl] at hy
    rw [if_pos rfl]
    split at hy
    · cases hy
      exact hx.ts s
    · cases hy
  · rw [if_neg hij] at hy
    rw [if_neg (fun z => hij z.symm)]
    exact (r i y hy).ts s
/-! ### sums over ranges -/
def rsumN (n : Nat) (f : Nat → Rat) : Rat := rsum ((List.range n).map f)
theorem rsumN_succ (n : Nat) (f : Nat → Rat) : rsumN (n + 1) f = rsumN n f + f n := by
  unfold rsumN
  rw [List.range_succ, List.map_append, rsum_append]
  show _ + (f n + 0) = _
  rw [Rat.add_zero]
theorem rsumN_congr {n : Nat} {f g : Nat → Rat} (h : ∀ i, i < n → f i = g i) : rsumN n f = rsumN n g := by
  induction n with
  | zero => rfl
  | succ n ih => rw [rsumN_succ, rsumN_succ, ih fun i hi => h i (by omega), h n (by omega)]
theorem rsumN_add (n : Nat) (f g : Nat → Rat) : rsumN n (fun i => f i + g i) = rsumN n f + rsumN n g := by
  induction n with
  | zero => exact (Rat.add_zero 0).symm
  | succ n ih => rw [rsumN_succ, rsumN_succ, rsumN_succ, ih]; grind
theorem rsumN_zero {n : Nat} {f : Nat → Rat} (h : ∀ i, i < n → f i = 0) : rsumN n f = 0 := by
  induction n with
  | zero => rfl
  | succ n ih => rw [rsumN_succ, ih fun i hi => h i (by omega), h n (by omega), Rat.add_zero]
theorem rsumN_nn {n : Nat} {f : Nat → Rat} (h : ∀ i, i < n → 0 ≤ f i) : 0 ≤ rsumN n f := by
  induction n with
  | zero => exact Rat.le_refl
  | succ n ih =>
    rw [rsumN_succ]
    have h1 := ih fun i hi => h i (by omega)
    have h2 := h n (by omega)
    grind
theorem rsumN_ge {n : Nat} {f : Nat → Rat} (h : ∀ i, i < n → 0 ≤ f i) {j : Nat} (hj : j < n) : f j ≤ rsumN n f := by
  induction n with
  | zero => omega
  | succ n ih =>
    rw [rsumN_succ]
    have h2 := h n (by omega)
    have h3 := rsumN_nn fun i (hi : i < n) => h i (by omega)
    by_cases e : j = n
    · subst e
      grind
    · have := ih (fun i hi => h i (by omega)) (by omega)
      grind
theorem rsumN_put {n : Nat} {f : Nat → Rat} {j : Nat} {z : Rat} (hj : j < n) : rsumN n (put f j z) = rsumN n f + (z - f j) := by
  induction n with
  | zero => omega
  | succ n ih =>
    rw [rsumN_succ, rsumN_succ]
    by_cases e : j = n
    · subst e
      rw [rsumN_congr (g := f) fun i hi => by unfold put; rw [if_neg (by omega)]]
      unfold put
      rw [if_pos rfl]
      grind
    · rw [ih (by omega)]
      have : put f j z n = f n := by unfold put; rw [if_neg (fun h => e h.symm)]
      rw [this]
      grind
theorem rsumN_put' {n : Nat} {f : Nat → Rat} {j : Nat} {z : Rat} (hj : n ≤ j) : rsumN n (put f j z) = rsumN n f :=
  rsumN_congr fun i hi => by unfold put; rw [if_neg (by omega)]
theorem rsumN_swap (m k : Nat) (T : Nat → Nat → Rat) : rsumN m (fun x => rsumN k (T x)) = rsumN k fun y => rsumN m fun x => T x y := by
  induction m with
  | zero => exact (rsumN_zero fun _ _ => rfl).symm
  | succ m ih =>
    rw [rsumN_succ, ih, ← rsumN_add]
    exact rsumN_congr fun i _ => (rsumN_succ m _).symm
/-! ### bottoms -/
theorem den_sub {a b : Rat} {S : Nat} (h0 : 0 < S) (ha : a.den ∣ S) (hb : b.den ∣ S) : (a - b).den ∣ S := by
  have e : a - b = Rat.divInt (a.num * ((S / a.den : Nat) : Int) + -(b.num * ((S / b.den : Nat) : Int))) (S : Int) := by
    rw [divInt_add_same, tops_one h0 ha, ← Rat.neg_divInt, tops_one h0 hb, Rat.sub_eq_add_neg]
  rw [e]
  exact den_dvd_bot h0
theorem bd_frac {q : Rat} {S : Nat} (q0 : 0 ≤ q) (q1 : q ≤ 1) (h0 : 0 < S) (hS : S ≤ 1000000) (hd : q.den ∣ S) : Bd 21 q := by
  have h1 : q.den ≤ S := Nat.le_of_dvd h0 hd
  have n0 : 0 ≤ q.num := Rat.num_nonneg.mpr q0
  have n1 : q.num ≤ (q.den : Int) := by
    have := (Rat.le_iff q 1).mp q1
    simpa using this
  exact ⟨by omega, by omega⟩
/-! ### filling -/
structure FillM (m k : Nat) (p q : Nat → Rat) (S : Nat) (h g : Nat → Rat) (T : Nat → Nat → Rat) (sp : List (Nat × Nat)) : Prop where
  row : ∀ x, x < m → h x + rsumN k (T x) = p x
  col : ∀ y, y < k → g y + rsumN m (fun x => T x y) = q y
  h0 : ∀ x, x < m → 0 ≤ h x ∧ h x ≤ 1 ∧ (h x).den ∣ S
  g0 : ∀ y, y < k → 0 ≤ g y ∧ g y ≤ 1 ∧ (g y).den ∣ S
  t0 : ∀ x y, x < m → y < k → 0 ≤ T x y ∧ T x y ≤ 1 ∧ (T x y).den ∣ S
  done : ∀ x y, x < m → y < k → (x, y) ∉ sp → h x = 0 ∨ g y = 0
  todo : ∀ xy ∈ sp, T xy.1 xy.2 = 0
  inb : ∀ xy ∈ sp, xy.1 < m ∧ xy.2 < k
  nd : sp.Nodup
def put2 (T : Nat → Nat → Rat) (x y : Nat) (z : Rat) : Nat → Nat → Rat := fun i => if i = x then put (T x) y z else T i
theorem FillM.step {m k : Nat} {p q : Nat → Rat} {S : Nat} {h g : Nat → Rat} {T : Nat → Nat → Rat} {sp : List (Nat × Nat)} (F : FillM m k p q S h g T sp) (hS : 0 < S) {c x y : Nat} (hc : sp[c]? = some (x, y)) {z : Rat} (hz : z = if g y < h x then g y else h x) :
    FillM m k p q S (put h x (h x - z)) (put g y (g y - z)) (put2 T x y z) (sp.eraseIdx c) := by
  have hm := List.mem_of_getElem? hc
  have hx : x < m := (F.inb _ hm).1
  have hy : y < k := (F.inb _ hm).2
  have t : T x y = 0 := F.todo _ hm
  obtain ⟨l1, l2, e1, e2⟩ : ∃ l1 l2, sp = l1 ++ (x, y) :: l2 ∧ sp.eraseIdx c = l1 ++ l2 := by
    have hl := (List.getElem?_eq_some_iff.mp hc).1
    refine ⟨sp.take c, sp.drop (c + 1), ?_, List.eraseIdx_eq_take_drop_succ ..⟩
    have := (List.getElem?_eq_some_iff.mp hc).2
    rw [← this, ← List.drop_eq_getElem_cons hl, List.take_append_drop]
  have nin : (x, y) ∉ sp.eraseIdx c := by
    have nd := F.nd
    rw [e1] at nd
    rw [e2]
    have := List.nodup_append.mp nd
    have h2 := List.nodup_cons.mp this.2.1
    intro hmem
    rcases List.mem_append.mp hmem with h | h
    · exact this.2.2 _ h _ List.mem_cons_self rfl
    · exact h2.1 h
  obtain ⟨hx0, hx1, hxd⟩ := F.h0 x hx
  obtain ⟨gy0, gy1, gyd⟩ := F.g0 y hy
  have z3 : 0 ≤ z ∧ z ≤ h x ∧ z ≤ g y ∧ z.den ∣ S ∧ (h x - z = 0 ∨ g y - z = 0) := by
    subst hz
    split
    · exact ⟨gy0, by grind, by grind, gyd, .inr (by grind)⟩
    · exact ⟨hx0, by grind, by grind, hxd, .inl (by grind)⟩
  obtain ⟨z0, zh, zg, zd, zz⟩ := z3
  refine ⟨fun i hi => ?_, fun j hj => ?_, fun i hi => ?_, fun j hj => ?_, fun i j hi hj => ?_, fun i j hi' hj hn => ?_, fun xy hxy => ?_, fun xy hxy => F.inb xy (List.mem_of_mem_eraseIdx hxy), F.nd.sublist (List.eraseIdx_sublist ..)⟩
  · have := F.row i hi
    by_cases e : i = x
    · subst e
      simp only [put, put2, if_true]
      rw [rsumN_put (f := T i) (z := z) hy, t]
      grind
    · simp only [put, put2, if_neg e]
      exact this
  · have := F.col j hj
    by_cases e : j = y
    · subst e
      have e2 : (fun i => put2 T x j z i j) = put (fun i => T i j) x z := by
        funext i
        by_cases e : i = x
        · subst e
          simp [put2, put]
        · simp [put2, put, e]
      rw [e2, rsumN_put hx]
      simp only [put, if_true]
      rw [t]
      grind
    · have e2 : (fun i => put2 T x y z i j) = fun i => T i j := by
        funext i
        by_cases e' : i = x
        · subst e'
          simp [put2, put, e]
        · simp [put2, e']
      rw [e2]
      simp only [put, if_neg e]
      exact this
  · by_cases e : i = x
    · subst e
      simp only [put, if_true]
      exact ⟨by grind, by grind, den_sub hS hxd zd⟩
    · simp only [put, if_neg e]
      exact F.h0 i hi
  · by_cases e : j = y
    · subst e
      simp only [put, if_true]
      exact ⟨by grind, by grind, den_sub hS gyd zd⟩
    · simp only [put, if_neg e]
      exact F.g0 j hj
  · by_cases e : i = x
    · subst e
      by_cases e' : j = y
      · subst e'
        simp only [put2, put, if_true]
        exact ⟨z0, by grind, zd⟩
      · simp only [put2, put, if_true, if_neg e']
        exact F.t0 i j hi hj
    · simp only [put2, if_neg e]
      exact F.t0 i j hi hj
  · by_cases e : (i, j) = (x, y)
    · cases e
      simp only [put, if_true]
      exact zz
    · have hn' : (i, j) ∉ sp := fun hmem => by
        refine hn ?_
        rw [e1] at hmem
        rw [e2]
        rcases List.mem_append.mp hmem with h | h
        · exact List.mem_append_left _ h
        · rcases List.mem_cons.mp h with h | h
          · exact absurd h e
          · exact List.mem_append_right _ h
      have := F.done i j hi' hj hn'
      simp only [put]
      split <;> split <;> grind
  · have hmem := List.mem_of_mem_eraseIdx hxy
    have t' := F.todo xy hmem
    have ne : xy ≠ (x, y) := fun e => nin (e ▸ hxy)
    obtain ⟨b, d⟩ := xy
    by_cases e : b = x
    · subst e
      have e' : d ≠ y := fun e' => ne (by rw [e'])
      simp only [put2, put, if_true, if_neg e']
      exact t'
    · simp only [put2, if_neg e]
      exact t'
theorem FillM.end_ {m k : Nat} {p q : Nat → Rat} {S : Nat} {h g : Nat → Rat} {T : Nat → Nat → Rat} (F : FillM m k p q S h g T []) (hp : rsumN m p = rsumN k q) : (∀ x, x < m → rsumN k (T x) = p x) ∧ ∀ y, y < k → rsumN m (fun x => T x y) = q y := by
  have e1 : rsumN m h + rsumN m (fun x => rsumN k (T x)) = rsumN m p := by
    rw [← rsumN_add]
    exact rsumN_congr F.row
  have e2 : rsumN k g + rsumN k (fun y => rsumN m fun x => T x y) = rsumN k q := by
    rw [← rsumN_add]
    exact rsumN_congr F.col
  rw [rsumN_swap] at e1
  have e3 : rsumN m h = rsumN k g := by grind
  have hz : (∀ x, x < m → h x = 0) ∧ ∀ y, y < k → g y = 0 := by
    by_cases hh : ∀ x, x < m → h x = 0
    · refine ⟨hh, fun y hy => ?_⟩
      have z := rsumN_zero hh
      have := rsumN_ge (fun i hi => (F.g0 i hi).1) hy
      have := (F.g0 y hy).1
      rw [← e3, z] at *
      grind
    · obtain ⟨x, hx⟩ := Classical.not_forall.mp hh
      obtain ⟨hx, hne⟩ := Classical.not_imp.mp hx
      have gz : ∀ y, y < k → g y = 0 := fun y hy => (F.done x y hx hy (by simp)).resolve_left hne
      refine ⟨fun i hi => ?_, gz⟩
      have z := rsumN_zero gz
      have := rsumN_ge (fun i hi => (F.h0 i hi).1) hi
      have := (F.h0 i hi).1
      rw [e3, z] at *
      grind
  exact ⟨fun x hx => by have := F.row x hx; rw [hz.1 x hx] at this; grind, fun y hy => by have := F.col y hy; rw [hz.2 y hy] at this; grind⟩
end Fb

/-! Part A12: the state of filling a plan, on the heap. -/
namespace Fb
open PySem PySem.Spec PyProof.Rows L2
theorem nodup_inj {α : Type} {l : List α} (nd : l.Nodup) {i j : Nat} {x : α} (hi : l[i]? = some x) (hj : l[j]? = some x) : i = j := by
  obtain ⟨i1, i2⟩ := List.getElem?_eq_some_iff.mp hi
  obtain ⟨j1, j2⟩ := List.getElem?_eq_some_iff.mp hj
  have p := List.pairwise_iff_getElem.mp nd
  rcases Nat.lt_trichotomy i j with h | h | h
  · exact absurd (i2.trans j2.symm) (p i j i1 j1 h)
  · exact h
  · exact absurd (j2.trans i2.symm) (p j i j1 i1 h)
structure FillAt (H0 : Hp) (a : Addr) (f m k : Nat) (ph pw pp ps : Addr) (rs : List Addr) (h g : Nat → Rat) (T : Nat → Nat → Rat) (sp : List (Nat × Nat)) (H : Hp) : Prop where
  same : Same (hid a H0) (hid a H)
  well : WellAt H a f
  new : ∀ p ∈ ph :: pw :: pp :: ps :: rs, H0 p = none ∧ p ≠ a
  dis : (ph :: pw :: pp :: ps :: rs).Nodup
  have_ : VecAt H ph m h
  want : VecAt H pw k g
  tab : H pp = some (.lst (rs.map V.ref))
  rlen : rs.length = m
  rows : ∀ (x : Nat) r, rs[x]? = some r → VecAt H r k (T x)
  spots : ∃ sv, H ps = some (.lst sv) ∧ AllAre (fun v (xy : Nat × Nat) => IsTup2 H v (xy.1 : Int) (xy.2 : Int)) sv sp
section
variable {H0 : Hp} {a : Addr} {f f' m k : Nat} {ph pw pp ps : Addr} {rs : List Addr} {h g : Nat → Rat} {T : Nat → Nat → Rat} {sp : List (Nat × Nat)} {H H' : Hp}
/-- tuples stay and the lists of filling stay -/
theorem FillAt.keep (F : FillAt H0 a f m k ph pw pp ps rs h g T sp H) (s : Same (hid a H) (hid a H')) (w : WellAt H' a f') : FillAt H0 a f' m k ph pw pp ps rs h g T sp H' := by
  have t := TS.well F.well s
  have e : ∀ p ∈ ph :: pw :: pp :: ps :: rs, ∀ o, H p = some o → H' p = some o := fun p hp o ho => by
    have := s p o (by rw [hid_ne (F.new p hp).2]; exact ho)
    rwa [hid_ne (F.new p hp).2] at this
  have v : ∀ p ∈ ph :: pw :: pp :: ps :: rs, ∀ n d, VecAt H p n d → VecAt H' p n d := fun p hp n d hv => by
    obtain ⟨vs, ev, l, r⟩ := hv
    exact ⟨vs, e p hp _ ev, l, fun i v hv => (r i v hv).ts t⟩
  refine ⟨F.same.trans s, w, F.new, F.dis, v _ (by simp) _ _ F.have_, v _ (by simp) _ _ F.want, e _ (by simp) _ F.tab, F.rlen, fun x r hr => v r ?_ _ _ (F.rows x r hr), ?_⟩
  · have := List.mem_of_getElem? hr
    simp [this]
  · obtain ⟨sv, es, as⟩ := F.spots
    exact ⟨sv, e _ (by simp) _ es, as.imp fun _ _ r => r.ts t⟩
/-- one of the lists of filling is set -/
theorem FillAt.upd_ (F : FillAt H0 a f m k ph pw pp ps rs h g T sp H) {p : Addr} {ys : List V} {o : HO} (hp : p ∈ ph :: pw :: pp :: ps :: rs) (e : H p = some (.lst ys)) :
    Same (hid a H0) (hid a (upd H p o)) ∧ WellAt (upd H p o) a f ∧ TS H (upd H p o) := by
  obtain ⟨n0, na⟩ := F.new p hp
  refine ⟨fun b u eb => ?_, F.well.upd na, TS.lst e⟩
  have hb : b ≠ p := fun z => by
    rw [z, hid_ne na, n0] at eb
    cases eb
  rw [hid_updN na, upd_ne hb]
  exact F.same b u eb
theorem FillAt.setH (F : FillAt H0 a f m k ph pw pp ps rs h g T sp H) {vs : List V} {j : Nat} {x : V} {z : Rat} (e : H ph = some (.lst vs)) (hx : IsPr H x z) : FillAt H0 a f m k ph pw pp ps rs (put h j z) g T sp (upd H ph (.lst (vs.set j x))) := by
  obtain ⟨s, w, t⟩ := F.upd_ (o := .lst (vs.set j x)) (by simp) e
  have d := List.nodup_cons.mp F.dis
  have ne : ∀ q ∈ pw :: pp :: ps :: rs, q ≠ ph := fun q hq z => d.1 (z ▸ hq)
  refine ⟨s, w, F.new, F.dis, F.have_.set e hx, F.want.ts t (upd_ne (ne _ (by simp))), by rw [upd_ne (ne _ (by simp))]; exact F.tab, F.rlen, fun x r hr => (F.rows x r hr).ts t (upd_ne (ne _ ?_)), ?_⟩
  · have := List.mem_of_getElem? hr
    simp [this]
  · obtain ⟨sv, es, as⟩ := F.spots
    exact ⟨sv, by rw [upd_ne (ne _ (by simp))]; exact es, as.imp fun _ _ r => r.ts t⟩
theorem FillAt.setW (F : FillAt H0 a f m k ph pw pp ps rs h g T sp H) {vs : List V} {j : Nat} {x : V} {z : Rat} (e : H pw = some (.lst vs)) (hx : IsPr H x z) : FillAt H0 a f m k ph pw pp ps rs h (put g j z) T sp (upd H pw (.lst (vs.set j x))) := by
  obtain ⟨s, w, t⟩ := F.upd_ (o := .lst (vs.set j x)) (by simp) e
  have d0 := List.nodup_cons.mp F.dis
  have d := List.nodup_cons.mp d0.2
  have ne : ∀ q ∈ pp :: ps :: rs, q ≠ pw := fun q hq z => d.1 (z ▸ hq)
  have ne0 : ph ≠ pw := fun z => d0.1 (by simp [z])
  refine ⟨s, w, F.new, F.dis, F.have_.ts t (upd_ne ne0), F.want.set e hx, by rw [upd_ne (ne _ (by simp))]; exact F.tab, F.rlen, fun x r hr => (F.rows x r hr).ts t (upd_ne (ne _ ?_)), ?_⟩
  · have := List.mem_of_getElem? hr
    simp [this]
  · obtain ⟨sv, es, as⟩ := F.spots
    exact ⟨sv, by rw [upd_ne (ne _ (by simp))]; exact es, as.imp fun _ _ r => r.ts t⟩
theorem FillAt.setR (F : FillAt H0 a f m k ph pw pp ps rs h g T sp H) {r : Addr} {vs : List V} {x y : Nat} {v : V} {z : Rat} (hr : rs[x]? = some r) (e : H r = some (.lst vs)) (hx : IsPr H v z) : FillAt H0 a f m k ph pw pp ps rs h g (put2 T x y z) sp (upd H r (.lst (vs.set y v))) := by
  have hm := List.mem_of_getElem? hr
  obtain ⟨s, w, t⟩ := F.upd_ (o := .lst (vs.set y v)) (by simp [hm]) e
  have d := F.dis
  simp only [List.nodup_cons, List.mem_cons, not_or] at d
  have n1 : ph ≠ r := fun z => d.1.2.2.2 (z ▸ hm)
  have n2 : pw ≠ r := fun z => d.2.1.2.2 (z ▸ hm)
  have n3 : pp ≠ r := fun z => d.2.2.1.2 (z ▸ hm)
  have n4 : ps ≠ r := fun z => d.2.2.2.1 (z ▸ hm)
  refine ⟨s, w, F.new, F.dis, F.have_.ts t (upd_ne n1), F.want.ts t (upd_ne n2), by rw [upd_ne n3]; exact F.tab, F.rlen, fun x' r' hr' => ?_, ?_⟩
  · by_cases ex : x' = x
    · subst ex
      rw [hr] at hr'
      cases hr'
      have := (F.rows x' r hr).set (j := y) e hx
      simpa [put2] using this
    · have hne : r' ≠ r := fun z => by
        have nd := d.2.2.2.2
        exact ex (nodup_inj nd hr' (z ▸ hr))
      simp only [put2, if_neg ex]
      exact (F.rows x' r' hr').ts t (upd_ne hne)
  · obtain ⟨sv, es, as⟩ := F.spots
    exact ⟨sv, by rw [upd_ne n4]; exact es, as.imp fun _ _ r => r.ts t⟩
theorem AllAre.erase {α : Type} {R : V → α → Prop} {vs : List V} {xs : List α} (h : AllAre R vs xs) (n : Nat) : AllAre R (vs.eraseIdx n) (xs.eraseIdx n) := by
  rw [List.eraseIdx_eq_take_drop_succ, List.eraseIdx_eq_take_drop_succ]
  exact (h.take n).append (h.drop (n + 1))
theorem FillAt.pop (F : FillAt H0 a f m k ph pw pp ps rs h g T sp H) {sv : List V} {j : Nat} (e : H ps = some (.lst sv)) : FillAt H0 a f m k ph pw pp ps rs h g T (sp.eraseIdx j) (upd H ps (.lst (sv.eraseIdx j))) := by
  obtain ⟨s, w, t⟩ := F.upd_ (o := .lst (sv.eraseIdx j)) (by simp) e
  have d := F.dis
  simp only [List.nodup_cons, List.mem_cons, not_or] at d
  have n1 : ph ≠ ps := d.1.2.2.1
  have n2 : pw ≠ ps := d.2.1.2.1
  have n3 : pp ≠ ps := d.2.2.1.1
  refine ⟨s, w, F.new, F.dis, F.have_.ts t (upd_ne n1), F.want.ts t (upd_ne n2), by rw [upd_ne n3]; exact F.tab, F.rlen, fun x' r' hr' => (F.rows x' r' hr').ts t (upd_ne fun z => d.2.2.2.1 (z ▸ List.mem_of_getElem? hr')), ?_⟩
  obtain ⟨sv', es, as⟩ := F.spots
  rw [e] at es
  cases es
  exact ⟨_, upd_same, (as.erase j).imp fun _ _ r => r.ts t⟩
end
/-- the plan that is told -/
structure PlanOk (m k : Nat) (p q : Nat → Rat) (T : Nat → Nat → Rat) : Prop where
  row : ∀ x, x < m → rsumN k (T x) = p x
  col : ∀ y, y < k → rsumN m (fun x => T x y) = q y
  t0 : ∀ x y, x < m → y < k → 0 ≤ T x y ∧ Bd 21 (T x y)
  den : ∃ S : Nat, 0 < S ∧ S ≤ 1000000 ∧ ∀ x y, x < m → y < k → T x y ≤ 1 ∧ (T x y).den ∣ S
end Fb

/-! Part A13: comprehensions that make rows; lists and functions. -/
namespace Fb
open PySem PySem.Spec PyProof.Rows L2
theorem pi_listK {X : Cx} {K : PySem.W.Frag} {tg l : Expr} {tl : TE} (hK : X.K = K) (hl : PE X l tl) : PI X tg l (iList K tl) := hK ▸ pi_list hl
theorem VecAt.same {H H' : Hp} {p : Addr} {m : Nat} {h : Nat → Rat} (v : VecAt H p m h) (s : Same H H') : VecAt H' p m h := by
  obtain ⟨vs, ev, l, r⟩ := v
  exact ⟨vs, s _ _ ev, l, fun i v hv => (r i v hv).mono s⟩
theorem lc_rows {K : PySem.W.Frag} {a : Addr} {xs : List V} {g : TG} {te : TE} {vs : List Nat} {σ : L2.St} {H1 : Hp} {D : Addr} {Qd : Hp → Prop} (k : Nat) (f : Nat → Rat)
    (hD : H1 D = none) (hS : SqL K H1 a xs) (hz : xs.length ≤ 1000)
    (hs : ∀ (i : Nat) x H (kk : V → Hp → Prop), xs[i]? = some x → Same H1 H → (∀ r H4, H r = none → Same H H4 → VecAt H4 r k f → kk (.ref r) H4) → g x (wipe σ vs) H fun σ2 H2 => wipe σ2 vs = wipe σ vs ∧ te σ2 H2 kk)
    (hd : ∀ H rs, Same H1 (hid D H) → H D = some (.lst (rs.map V.ref)) → rs.length = xs.length → (D :: rs).Nodup → (∀ r ∈ rs, H1 r = none ∧ VecAt H r k f) → Qd H) :
    ∃ W : Nat → Nat → Hp → Prop, (∃ m, W 0 m (upd H1 D (.lst []))) ∧ ∀ i m H, W i m H →
      ((Itl K a).stop i H ∧ Qd H) ∨ ((Itl K a).go i H ∧ ∃ Nx : Hp → Prop, (∀ H', Nx H' → ∃ m', m' < m ∧ W (i + 1) m' H') ∧ ∀ x H', (Itl K a).yld i H x H' → g x (wipe σ vs) H' fun σ2 H2 => wipe σ2 vs = wipe σ vs ∧ tYes σ2 H2 fun b H3 =>
        if b = true then te σ2 H3 fun y H4 => ∃ acc, H4 D = some (.lst acc) ∧ acc.length < sizeLine ∧ Nx (upd H4 D (.lst (acc ++ [y]))) else Nx H3) := by
  refine lc_list (xs := xs) (fun i H => ∃ rs : List Addr, Same H1 (hid D H) ∧ H D = some (.lst (rs.map V.ref)) ∧ rs.length = i ∧ (D :: rs).Nodup ∧ ∀ r ∈ rs, H1 r = none ∧ VecAt H r k f) ⟨[], ?_, upd_same, rfl, by simp, fun r h => by simp at h⟩ (fun i H _ h => ?_) (fun i x H hx h => ?_) (fun H h => ?_)
  · intro b o e
    rw [hid_ne (ne_of_none e hD), upd_ne (ne_of_none e hD)]
    exact e
  · obtain ⟨rs, s, _⟩ := h
    exact (s.trans hid_same).seq hS
  · obtain ⟨rs, s, e, l, nd, r⟩ := h
    have hi : i < xs.length := (List.getElem?_eq_some_iff.mp hx).1
    refine hs i x H (fun y H4 => ∃ acc, H4 D = some (.lst acc) ∧ acc.length < sizeLine ∧ ∃ rs : List Addr, Same H1 (hid D (upd H4 D (.lst (acc ++ [y])))) ∧ (upd H4 D (.lst (acc ++ [y]))) D = some (.lst (rs.map V.ref)) ∧ rs.length = i + 1 ∧ (D :: rs).Nodup ∧ ∀ r ∈ rs, H1 r = none ∧ VecAt (upd H4 D (.lst (acc ++ [y]))) r k f) hx (s.trans hid_same) fun q H4 nq s4 vq => ?_
    have e4 := s4 _ _ e
    have qD : q ≠ D := fun z => by rw [z, e] at nq; cases nq
    have up : ∀ r', r' ≠ D → VecAt H4 r' k f → VecAt (upd H4 D (.lst (rs.map V.ref ++ [.ref q]))) r' k f := fun r' hr v => v.ts (TS.lst e4) (upd_ne hr)
    refine ⟨_, e4, small1000 (by rw [List.length_map]; omega), rs ++ [q], ?_, by rw [upd_same]; simp, by simp [l], ?_, fun r' hr' => ?_⟩
    · rw [hid_upd]
      exact s.trans (hid_mono s4)
    · have n1 := List.nodup_cons.mp nd
      refine List.nodup_cons.mpr ⟨?_, ?_⟩
      · simp only [List.mem_append, List.mem_singleton, not_or]
        exact ⟨n1.1, fun z => qD z.symm⟩
      · refine List.nodup_append.mpr ⟨n1.2, by simp, fun x hx y hy => ?_⟩
        have : y = q := by simpa using hy
        subst this
        intro z
        obtain ⟨vs', ev, _⟩ := (r x hx).2
        rw [z, nq] at ev
        cases ev
    · rcases List.mem_append.mp hr' with h | h
      · have n1 := List.nodup_cons.mp nd
        exact ⟨(r r' h).1, up r' (fun z => n1.1 (z ▸ h)) ((r r' h).2.same s4)⟩
      · have : r' = q := by simpa using h
        subst this
        refine ⟨?_, up _ qD vq⟩
        cases e' : H1 r' with
        | none => rfl
        | some o =>
          have := hid_same _ _ (s _ _ e')
          rw [nq] at this
          cases this
  · obtain ⟨rs, s, e, l, nd, r⟩ := h
    exact hd H rs s e l nd r
/-- [e for x in range(..)] that only makes -/
theorem lc_allR {lo : Int} {n : Nat} {g : TG} {te : TE} {vs : List Nat} {σ : L2.St} {H1 : Hp} {D : Addr} {Qd : Hp → Prop} (R : Nat → V → Hp → Prop) (mono : ∀ i v H H', Same H H' → R i v H → R i v H')
    (hD : H1 D = none) (hz : n ≤ 1000)
    (hs : ∀ i H (k : V → Hp → Prop), i < n → Same H1 (hid D H) → (∃ ys, H D = some (.lst ys)) → (∀ y H4, Same H H4 → R i y (hid D H4) → k y H4) → g (.int (lo + i)) (wipe σ vs) H fun σ2 H2 => wipe σ2 vs = wipe σ vs ∧ te σ2 H2 k)
    (hd : ∀ H ys, Same H1 (hid D H) → H D = some (.lst ys) → ys.length = n → (∀ i y, ys[i]? = some y → R i y (hid D H)) → Qd H) :
    ∃ W : Nat → Nat → Hp → Prop, (∃ m, W 0 m (upd H1 D (.lst []))) ∧ ∀ i m H, W i m H →
      ((Itr lo n).stop i H ∧ Qd H) ∨ ((Itr lo n).go i H ∧ ∃ Nx : Hp → Prop, (∀ H', Nx H' → ∃ m', m' < m ∧ W (i + 1) m' H') ∧ ∀ x H', (Itr lo n).yld i H x H' → g x (wipe σ vs) H' fun σ2 H2 => wipe σ2 vs = wipe σ vs ∧ tYes σ2 H2 fun b H3 =>
        if b = true then te σ2 H3 fun y H4 => ∃ acc, H4 D = some (.lst acc) ∧ acc.length < sizeLine ∧ Nx (upd H4 D (.lst (acc ++ [y]))) else Nx H3) := by
  refine lc_range (fun i H => ∃ ys, Same H1 (hid D H) ∧ H D = some (.lst ys) ∧ ys.length = i ∧ ∀ j y, ys[j]? = some y → R j y (hid D H)) ⟨[], ?_, upd_same, rfl, fun j y h => by simp at h⟩ (fun i H hi h => ?_) (fun H h => ?_)
  · intro b o e
    rw [hid_ne (ne_of_none e hD), upd_ne (ne_of_none e hD)]
    exact e
  · obtain ⟨ys, s, e, l, r⟩ := h
    refine hs i H (fun y H4 => ∃ acc, H4 D = some (.lst acc) ∧ acc.length < sizeLine ∧ ∃ ys, Same H1 (hid D (upd H4 D (.lst (acc ++ [y])))) ∧ (upd H4 D (.lst (acc ++ [y]))) D = some (.lst ys) ∧ ys.length = i + 1 ∧ ∀ j y', ys[j]? = some y' → R j y' (hid D (upd H4 D (.lst (acc ++ [y]))))) hi s ⟨_, e⟩ fun y H4 s4 ry => ?_
    refine ⟨ys, s4 _ _ e, small1000 (by omega), ys ++ [y], ?_, upd_same, by simp [l], fun j y' h => ?_⟩
    · rw [hid_upd]
      exact s.trans (hid_mono s4)
    · rw [hid_upd]
      by_cases hj : j < ys.length
      · rw [List.getElem?_append_left hj] at h
        exact mono _ _ _ _ (hid_mono s4) (r j y' h)
      · rw [List.getElem?_append_right (by omega)] at h
        have hj2 : j - ys.length = 0 := by
          have := (List.getElem?_eq_some_iff.mp h).1
          simp at this
          omega
        rw [hj2] at h
        simp at h
        subst h
        have : j = i := by omega
        rw [this]
        exact ry
  · obtain ⟨ys, s, e, l, r⟩ := h
    exact hd H ys s e l r
/-! ### lists and functions -/
def at0 (l : List Rat) (i : Nat) : Rat := l.getD i 0
theorem at0_of {l : List Rat} {i : Nat} {z : Rat} (h : l[i]? = some z) : at0 l i = z := by
  unfold at0
  rw [List.getD_eq_getElem?_getD, h]
  rfl
theorem at0_mem {l : List Rat} {i : Nat} (h : i < l.length) : at0 l i ∈ l := by
  rw [at0_of (List.getElem?_eq_getElem h)]
  exact List.getElem_mem h
theorem rsumN_at0 (l : List Rat) : rsumN l.length (at0 l) = rsum l := by
  unfold rsumN
  congr 1
  refine List.ext_getElem (by simp) fun i h1 h2 => ?_
  simp only [List.getElem_map, List.getElem_range]
  exact at0_of (List.getElem?_eq_getElem h2)
theorem IsPrs.vec {H : Hp} {p : Addr} {qs : List Rat} (h : IsPrs H (.ref p) qs) : VecAt H p qs.length (at0 qs) := by
  obtain ⟨p', vs, e, h, a⟩ := h
  cases e
  refine ⟨vs, h, a.1, fun i v hv => ?_⟩
  obtain ⟨z, hz, r⟩ := a.at hv
  rw [at0_of hz]
  exact r
theorem VecAt.prs {H : Hp} {p : Addr} {m : Nat} {f : Nat → Rat} (v : VecAt H p m f) : IsPrs H (.ref p) ((List.range m).map f) := by
  obtain ⟨vs, e, l, r⟩ := v
  refine ⟨p, vs, rfl, e, .of_ix (by simp [l]) fun i y hy => ⟨f i, ?_, r i y hy⟩⟩
  have hi := (List.getElem?_eq_some_iff.mp hy).1
  rw [List.getElem?_map, List.getElem?_range (by omega)]
  rfl
/-- the spots of filling, row by row -/
def spotsTo (k : Nat) : Nat → List (Nat × Nat)
  | 0 => []
  | x + 1 => spotsTo k x ++ (List.range k).map fun y => (x, y)
theorem spotsTo_len (k : Nat) : ∀ m, (spotsTo k m).length = m * k
  | 0 => by simp [spotsTo]
  | m + 1 => by
    rw [spotsTo, List.length_append, spotsTo_len k m, List.length_map, List.length_range, Nat.succ_mul]
theorem spotsTo_mem {k x y : Nat} : ∀ {m : Nat}, (x, y) ∈ spotsTo k m ↔ x < m ∧ y < k
  | 0 => by simp [spotsTo]
  | m + 1 => by
    rw [spotsTo, List.mem_append, spotsTo_mem, List.mem_map]
    simp only [List.mem_range, Prod.mk.injEq]
    constructor
    · rintro (h | ⟨y', h1, h2, h3⟩)
      · omega
      · omega
    · intro h
      by_cases e : x < m
      · exact .inl ⟨e, h.2⟩
      · exact .inr ⟨y, h.2, by omega, rfl⟩
theorem spotsTo_nodup (k : Nat) : ∀ m, (spotsTo k m).Nodup
  | 0 => by simp [spotsTo]
  | m + 1 => by
    rw [spotsTo]
    refine List.nodup_append.mpr ⟨spotsTo_nodup k m, ?_, fun a ha b hb => ?_⟩
    · refine List.pairwise_map.mpr (List.Pairwise.imp (fun h z => h ?_) List.nodup_range)
      simpa using z
    · obtain ⟨x, y⟩ := a
      have h1 := spotsTo_mem.mp ha
      obtain ⟨y', _, rfl⟩ := List.mem_map.mp hb
      intro z
      cases z
      omega
theorem heap_le1 {l : List Rat} (h : HeapOk l) {q : Rat} (hq : q ∈ l) : q ≤ 1 := by
  obtain ⟨i, hi, e⟩ := List.mem_iff_getElem.mp hq
  have := rsumN_ge (n := l.length) (f := at0 l) (fun j hj => h.nn _ (at0_mem hj)) hi
  rw [rsumN_at0, h.one, at0_of (List.getElem?_eq_getElem hi), e] at this
  exact this
theorem FillM.start {pl ql : List Rat} (hp : HeapOk pl) (hq : HeapOk ql) : ∃ S : Nat, 0 < S ∧ S ≤ 1000000 ∧ FillM pl.length ql.length (at0 pl) (at0 ql) S (at0 pl) (at0 ql) (fun _ _ => 0) (spotsTo ql.length pl.length) := by
  obtain ⟨S1, a1, a2, a3⟩ := hp.den
  obtain ⟨S2, b1, b2, b3⟩ := hq.den
  refine ⟨S1 * S2, Nat.mul_pos a1 b1, Nat.mul_le_mul a2 b2, fun x _ => ?_, fun y _ => ?_, fun x hx => ?_, fun y hy => ?_, fun _ _ _ _ => ?_, fun x y hx hy hn => absurd (spotsTo_mem.mpr ⟨hx, hy⟩) hn, fun _ _ => rfl, fun xy h => spotsTo_mem.mp h, spotsTo_nodup _ _⟩
  · rw [rsumN_zero fun _ _ => rfl, Rat.add_zero]
  · rw [rsumN_zero fun _ _ => rfl, Rat.add_zero]
  · have := at0_mem hx
    exact ⟨hp.nn _ this, heap_le1 hp this, Nat.dvd_trans (a3 _ this) (Nat.dvd_mul_right _ _)⟩
  · have := at0_mem hy
    exact ⟨hq.nn _ this, heap_le1 hq this, Nat.dvd_trans (b3 _ this) (Nat.dvd_mul_left _ _)⟩
  · exact ⟨Rat.le_refl, by decide, Nat.one_dvd _⟩
theorem FillAt.ext {H0 : Hp} {a : Addr} {f m k : Nat} {ph pw pp ps : Addr} {rs : List Addr} {h g : Nat → Rat} {T : Nat → Nat → Rat} {sp more : List (Nat × Nat)} {H : Hp} (F : FillAt H0 a f m k ph pw pp ps rs h g T sp H) {sv ys : List V} (e : H ps = some (.lst sv)) (hy : AllAre (fun v (xy : Nat × Nat) => IsTup2 H v (xy.1 : Int) (xy.2 : Int)) ys more) :
    FillAt H0 a f m k ph pw pp ps rs h g T (sp ++ more) (upd H ps (.lst (sv ++ ys))) := by
  obtain ⟨s, w, t⟩ := F.upd_ (o := .lst (sv ++ ys)) (by simp) e
  have d := F.dis
  simp only [List.nodup_cons, List.mem_cons, not_or] at d
  have n1 : ph ≠ ps := d.1.2.2.1
  have n2 : pw ≠ ps := d.2.1.2.1
  have n3 : pp ≠ ps := d.2.2.1.1
  refine ⟨s, w, F.new, F.dis, F.have_.ts t (upd_ne n1), F.want.ts t (upd_ne n2), by rw [upd_ne n3]; exact F.tab, F.rlen, fun x' r' hr' => (F.rows x' r' hr').ts t (upd_ne fun z => d.2.2.2.1 (z ▸ List.mem_of_getElem? hr')), ?_⟩
  obtain ⟨sv', es, as⟩ := F.spots
  rw [e] at es
  cases es
  exact ⟨_, upd_same, (as.append hy).imp fun _ _ r => r.ts t⟩
end Fb

/-! Part A14: filters of lists, suites with one end. -/
namespace Fb
open PySem PySem.Spec PyProof.Rows L2
theorem seq_fin {t u : L2.TS} {D : Ends} {σ : L2.St} {H : Hp} (M : L2.St → Hp → Prop) (h2 : ∀ σ H, M σ H → u D σ H) (h1 : (∀ σ H, M σ H → u D σ H) → t { D with nx := u D } σ H) : tSeq t u D σ H := h1 h2
/-- [e for x in xs if ..]: whether something is left -/
theorem lc_some {K : PySem.W.Frag} {a : Addr} {xs : List V} {g : TG} {tt : TT} {te : TE} {vs : List Nat} {σ : L2.St} {H1 : Hp} {D : Addr} {Qd : Hp → Prop} (t : Nat → Bool)
    (hD : H1 D = none) (hS : SqL K H1 a xs) (hz : xs.length ≤ 1000)
    (hs : ∀ (i : Nat) x H (kt : V → Hp → Prop) (kf : Hp → Prop), xs[i]? = some x → Same H1 H → (t i = true → ∀ y H4, Same H H4 → kt y H4) → (t i = false → ∀ H4, Same H H4 → kf H4) →
      g x (wipe σ vs) H fun σ2 H2 => wipe σ2 vs = wipe σ vs ∧ tt σ2 H2 fun b H3 => if b = true then te σ2 H3 kt else kf H3)
    (hd : ∀ H ys, Same H1 (hid D H) → H D = some (.lst ys) → ys.isEmpty = (List.range xs.length).all (fun i => !t i) → Qd H) :
    ∃ W : Nat → Nat → Hp → Prop, (∃ m, W 0 m (upd H1 D (.lst []))) ∧ ∀ i m H, W i m H →
      ((Itl K a).stop i H ∧ Qd H) ∨ ((Itl K a).go i H ∧ ∃ Nx : Hp → Prop, (∀ H', Nx H' → ∃ m', m' < m ∧ W (i + 1) m' H') ∧ ∀ x H', (Itl K a).yld i H x H' → g x (wipe σ vs) H' fun σ2 H2 => wipe σ2 vs = wipe σ vs ∧ tt σ2 H2 fun b H3 =>
        if b = true then te σ2 H3 fun y H4 => ∃ acc, H4 D = some (.lst acc) ∧ acc.length < sizeLine ∧ Nx (upd H4 D (.lst (acc ++ [y]))) else Nx H3) := by
  have ra : ∀ i, (List.range (i + 1)).all (fun i => !t i) = ((List.range i).all (fun i => !t i) && !t i) := fun i => by
    rw [List.range_succ, List.all_append]
    simp
  refine lc_list (xs := xs) (fun i H => ∃ ys, Same H1 (hid D H) ∧ H D = some (.lst ys) ∧ ys.length ≤ i ∧ ys.isEmpty = (List.range i).all (fun i => !t i)) ⟨[], ?_, upd_same, Nat.zero_le _, rfl⟩ (fun i H _ h => ?_) (fun i x H hx h => ?_) (fun H h => ?_)
  · intro b o e
    rw [hid_ne (ne_of_none e hD), upd_ne (ne_of_none e hD)]
    exact e
  · obtain ⟨ys, s, _⟩ := h
    exact (s.trans hid_same).seq hS
  · obtain ⟨ys, s, e, l, r⟩ := h
    have hi : i < xs.length := (List.getElem?_eq_some_iff.mp hx).1
    refine hs i x H (fun y H4 => ∃ acc, H4 D = some (.lst acc) ∧ acc.length < sizeLine ∧ ∃ ys, Same H1 (hid D (upd H4 D (.lst (acc ++ [y])))) ∧ (upd H4 D (.lst (acc ++ [y]))) D = some (.lst ys) ∧ ys.length ≤ i + 1 ∧ ys.isEmpty = (List.range (i + 1)).all (fun i => !t i)) _ hx (s.trans hid_same) (fun ht y H4 s4 => ?_) (fun ht H4 s4 => ?_)
    · refine ⟨ys, s4 _ _ e, small1000 (by omega), ys ++ [y], ?_, upd_same, by simp; omega, ?_⟩
      · rw [hid_upd]
        exact s.trans (hid_mono s4)
      · rw [ra, ht]
        simp
    · refine ⟨ys, s.trans (hid_mono s4), s4 _ _ e, by omega, ?_⟩
      rw [ra, ht, r]
      simp
  · obtain ⟨ys, s, e, l, r⟩ := h
    exact hd H ys s e r
end Fb

/-! Part A15: comprehensions over any walk, of one and of two clauses; sums of products. -/
namespace Fb
open PySem PySem.Spec PyProof.Rows L2
section
variable {X : Cx} {K : PySem.W.Frag}
theorem pi_enumK {e : Expr} {ta : TA} {p pos tpos : Pos} {elts : List Expr} {kk : Nat} (hK : X.K = K) (hg : Gl X "enumerate") (hm : X.mg "enumerate" = none) (ha : PA X [e] ta) (hs : starEach [e] X.env = [(false, eval e X.env)] := by rfl) :
    PI X (.Tuple elts kk tpos) (.Call (.Name "enumerate" p) [e] [] pos) (iEnum K ta) := hK ▸ pi_enum hg hm ha hs
theorem pi_zipK {e e2 : Expr} {ta : TA} {p pos tpos : Pos} {elts : List Expr} {kk : Nat} (hK : X.K = K) (hg : Gl X "zip") (hm : X.mg "zip" = none) (ha : PA X [e, e2] ta)
    (hs : starEach [e, e2] X.env = (false, eval e X.env) :: starEach [e2] X.env := by rfl) (hpl : (backTo pos (starEach [e2] X.env)).any (·.1) = false := by rfl) :
    PI X (.Tuple elts kk tpos) (.Call (.Name "zip" p) [e, e2] [] pos) (iZip K ta) := hK ▸ pi_zip hg hm ha hs hpl
theorem pi_tupK {tg l : Expr} {tl : TE} (hK : X.K = K) (hl : PE X l tl) : PI X tg l (iTup K tl) := hK ▸ pi_tup hl
end
section
variable {J : It} {n : Nat} {G : Hp → Prop} {Y : Nat → Hp → V → Hp → Prop}
/-- [e for .. in ..] that only makes, over any walk -/
theorem lc_allW (w : Walk J n G Y) {g : TG} {te : TE} {vs : List Nat} {σ : L2.St} {H1 : Hp} {D : Addr} {Qd : Hp → Prop} (R : Nat → V → Hp → Prop) (mono : ∀ i v H H', Same H H' → R i v H → R i v H')
    (hD : H1 D = none) (hS : ∀ H, Same H1 H → G H) (hz : n ≤ 1000)
    (hs : ∀ i x H H' (k : V → Hp → Prop), i < n → Same H1 (hid D H) → (∃ ys, H D = some (.lst ys)) → Y i H x H' → (∀ y H4, Same H H4 → R i y (hid D H4) → k y H4) → g x (wipe σ vs) H' fun σ2 H2 => wipe σ2 vs = wipe σ vs ∧ te σ2 H2 k)
    (hd : ∀ H ys, Same H1 (hid D H) → H D = some (.lst ys) → ys.length = n → (∀ i y, ys[i]? = some y → R i y (hid D H)) → Qd H) :
    ∃ W : Nat → Nat → Hp → Prop, (∃ m, W 0 m (upd H1 D (.lst []))) ∧ ∀ i m H, W i m H →
      (J.stop i H ∧ Qd H) ∨ (J.go i H ∧ ∃ Nx : Hp → Prop, (∀ H', Nx H' → ∃ m', m' < m ∧ W (i + 1) m' H') ∧ ∀ x H', J.yld i H x H' → g x (wipe σ vs) H' fun σ2 H2 => wipe σ2 vs = wipe σ vs ∧ tYes σ2 H2 fun b H3 =>
        if b = true then te σ2 H3 fun y H4 => ∃ acc, H4 D = some (.lst acc) ∧ acc.length < sizeLine ∧ Nx (upd H4 D (.lst (acc ++ [y]))) else Nx H3) := by
  refine lc_it w (fun i H => ∃ ys, Same H1 (hid D H) ∧ H D = some (.lst ys) ∧ ys.length = i ∧ ∀ j y, ys[j]? = some y → R j y (hid D H)) ⟨[], ?_, upd_same, rfl, fun j y h => by simp at h⟩ (fun i H _ h => ?_) (fun i x H H' hi h y => ?_) (fun H h => ?_)
  · intro b o e
    rw [hid_ne (ne_of_none e hD), upd_ne (ne_of_none e hD)]
    exact e
  · obtain ⟨ys, s, _⟩ := h
    exact hS H (s.trans hid_same)
  · obtain ⟨ys, s, e, l, r⟩ := h
    refine hs i x H H' (fun y H4 => ∃ acc, H4 D = some (.lst acc) ∧ acc.length < sizeLine ∧ ∃ ys, Same H1 (hid D (upd H4 D (.lst (acc ++ [y])))) ∧ (upd H4 D (.lst (acc ++ [y]))) D = some (.lst ys) ∧ ys.length = i + 1 ∧ ∀ j y', ys[j]? = some y' → R j y' (hid D (upd H4 D (.lst (acc ++ [y]))))) hi s ⟨_, e⟩ y fun y H4 s4 ry => ?_
    refine ⟨ys, s4 _ _ e, small1000 (by omega), ys ++ [y], ?_, upd_same, by simp [l], fun j y' h => ?_⟩
    · rw [hid_upd]
      exact s.trans (hid_mono s4)
    · rw [hid_upd]
      by_cases hj : j < ys.length
      · rw [List.getElem?_append_left hj] at h
        exact mono _ _ _ _ (hid_mono s4) (r j y' h)
      · rw [List.getElem?_append_right (by omega)] at h
        have hj2 : j - ys.length = 0 := by
          have := (List.getElem?_eq_some_iff.mp h).1
          simp at this
          omega
        rw [hj2] at h
        simp at h
        subst h
        have : j = i := by omega
        rw [this]
        exact ry
  · obtain ⟨ys, s, e, l, r⟩ := h
    exact hd H ys s e l r
/-- [e for .. in .. if ..] over any walk: whether something is left -/
theorem lc_someW (w : Walk J n G Y) {g : TG} {tt : TT} {te : TE} {vs : List Nat} {σ : L2.St} {H1 : Hp} {D : Addr} {Qd : Hp → Prop} (t : Nat → Bool)
    (hD : H1 D = none) (hS : ∀ H, Same H1 H → G H) (hz : n ≤ 1000)
    (hs : ∀ (i : Nat) x H H' (kt : V → Hp → Prop) (kf : Hp → Prop), i < n → Same H1 H → Y i H x H' → (t i = true → ∀ y H4, Same H H4 → kt y H4) → (t i = false → ∀ H4, Same H H4 → kf H4) →
      g x (wipe σ vs) H' fun σ2 H2 => wipe σ2 vs = wipe σ vs ∧ tt σ2 H2 fun b H3 => if b = true then te σ2 H3 kt else kf H3)
    (hd : ∀ H ys, Same H1 (hid D H) → H D = some (.lst ys) → ys.isEmpty = (List.range n).all (fun i => !t i) → Qd H) :
    ∃ W : Nat → Nat → Hp → Prop, (∃ m, W 0 m (upd H1 D (.lst []))) ∧ ∀ i m H, W i m H →
      (J.stop i H ∧ Qd H) ∨ (J.go i H ∧ ∃ Nx : Hp → Prop, (∀ H', Nx H' → ∃ m', m' < m ∧ W (i + 1) m' H') ∧ ∀ x H', J.yld i H x H' → g x (wipe σ vs) H' fun σ2 H2 => wipe σ2 vs = wipe σ vs ∧ tt σ2 H2 fun b H3 =>
        if b = true then te σ2 H3 fun y H4 => ∃ acc, H4 D = some (.lst acc) ∧ acc.length < sizeLine ∧ Nx (upd H4 D (.lst (acc ++ [y]))) else Nx H3) := by
  have ra : ∀ i, (List.range (i + 1)).all (fun i => !t i) = ((List.range i).all (fun i => !t i) && !t i) := fun i => by
    rw [List.range_succ, List.all_append]
    simp
  refine lc_it w (fun i H => ∃ ys, Same H1 (hid D H) ∧ H D = some (.lst ys) ∧ ys.length ≤ i ∧ ys.isEmpty = (List.range i).all (fun i => !t i)) ⟨[], ?_, upd_same, Nat.zero_le _, rfl⟩ (fun i H _ h => ?_) (fun i x H H' hi h y => ?_) (fun H h => ?_)
  · intro b o e
    rw [hid_ne (ne_of_none e hD), upd_ne (ne_of_none e hD)]
    exact e
  · obtain ⟨ys, s, _⟩ := h
    exact hS H (s.trans hid_same)
  · obtain ⟨ys, s, e, l, r⟩ := h
    refine hs i x H H' (fun y H4 => ∃ acc, H4 D = some (.lst acc) ∧ acc.length < sizeLine ∧ ∃ ys, Same H1 (hid D (upd H4 D (.lst (acc ++ [y])))) ∧ (upd H4 D (.lst (acc ++ [y]))) D = some (.lst ys) ∧ ys.length ≤ i + 1 ∧ ys.isEmpty = (List.range (i + 1)).all (fun i => !t i)) _ hi (s.trans hid_same) y (fun ht y H4 s4 => ?_) (fun ht H4 s4 => ?_)
    · refine ⟨ys, s4 _ _ e, small1000 (by omega), ys ++ [y], ?_, upd_same, by simp; omega, ?_⟩
      · rw [hid_upd]
        exact s.trans (hid_mono s4)
      · rw [ra, ht]
        simp
    · refine ⟨ys, s.trans (hid_mono s4), s4 _ _ e, by omega, ?_⟩
      rw [ra, ht, r]
      simp
  · obtain ⟨ys, s, e, l, r⟩ := h
    exact hd H ys s e r
/-- the second clause's own loop -/
theorem lc_inner (w : Walk J n G Y) {g1 : TG} {tt1 : TT} {te : TE} {vs1 : List Nat} {σ2 : L2.St} {H4 : Hp} {D : Addr} {Nx : Hp → Prop} (Pv : Nat → Hp → Prop) (h0 : Pv 0 H4) (hG : ∀ j H, j ≤ n → Pv j H → G H)
    (hs : ∀ j x H H', j < n → Pv j H → Y j H x H' → g1 x (wipe σ2 vs1) H' fun σ3 H5 => wipe σ3 vs1 = wipe σ2 vs1 ∧ tt1 σ3 H5 fun b H6 =>
      if b = true then te σ3 H6 fun y H7 => ∃ acc, H7 D = some (.lst acc) ∧ acc.length < sizeLine ∧ Pv (j + 1) (upd H7 D (.lst (acc ++ [y]))) else Pv (j + 1) H6) (hd : ∀ H, Pv n H → Nx H) :
    ∃ W1 : Nat → Nat → Hp → Prop, (∃ m, W1 0 m H4) ∧ ∀ j k H, W1 j k H →
      (J.stop j H ∧ Nx H) ∨ (J.go j H ∧ ∃ Nx1 : Hp → Prop, (∀ H', Nx1 H' → ∃ k', k' < k ∧ W1 (j + 1) k' H') ∧ ∀ x H', J.yld j H x H' → g1 x (wipe σ2 vs1) H' fun σ3 H5 => wipe σ3 vs1 = wipe σ2 vs1 ∧ tt1 σ3 H5 fun b H6 =>
        if b = true then te σ3 H6 fun y H7 => ∃ acc, H7 D = some (.lst acc) ∧ acc.length < sizeLine ∧ Nx1 (upd H7 D (.lst (acc ++ [y]))) else Nx1 H6) := by
  refine ⟨fun i m H => m = n - i ∧ i ≤ n ∧ Pv i H, ⟨n, by simp, Nat.zero_le _, h0⟩, ?_⟩
  rintro i m H ⟨rfl, hi, p⟩
  have q := hG i H hi p
  by_cases hlt : i < n
  · exact .inr ⟨w.goes i H hlt q, Pv (i + 1), fun H' p' => ⟨n - (i + 1), by omega, rfl, hlt, p'⟩, fun x H' y => hs i x H H' hlt p (w.yields i H x H' hlt q y)⟩
  · have e : i = n := by omega
    subst e
    exact .inl ⟨w.stops H q, hd H p⟩
/-- the items of one turn of the first clause -/
def Block (R : Nat → V → Hp → Prop) (m : Nat) (b : List V) (H : Hp) : Prop := b.length = m ∧ ∀ (j : Nat) y, b[j]? = some y → R j y H
theorem Block.mono {R : Nat → V → Hp → Prop} {m : Nat} {b : List V} {H H' : Hp} (mono : ∀ j v H H', Same H H' → R j v H → R j v H') (s : Same H H') (h : Block R m b H) : Block R m b H' := ⟨h.1, fun j y hy => mono j y H H' s (h.2 j y hy)⟩
/-- what the second clause's source is, seen from the i-th turn of the first -/
def InC (m : Nat) (R : Nat → V → Hp → Prop) (g1 : TG) (te : TE) (vs1 : List Nat) (D : Addr) (H : Hp) (σ2 : L2.St) (J1 : It) (H4 : Hp) : Prop :=
  Same H H4 ∧ ∃ (G1 : Hp → Prop) (Y1 : Nat → Hp → V → Hp → Prop), Walk J1 m G1 Y1 ∧ (∀ H5, Same (hid D H4) (hid D H5) → (∃ ys, H5 D = some (.lst ys)) → G1 H5) ∧
    ∀ j x1 H5 H6 (k : V → Hp → Prop), j < m → Same (hid D H4) (hid D H5) → (∃ ys, H5 D = some (.lst ys)) → Y1 j H5 x1 H6 → (∀ y H7, Same H5 H7 → R j y (hid D H7) → k y H7) →
      g1 x1 (wipe σ2 vs1) H6 fun σ3 H8 => wipe σ3 vs1 = wipe σ2 vs1 ∧ te σ3 H8 k
theorem lc2_all (w : Walk J n G Y) {g g1 : TG} {wi1 : TI} {te : TE} {vs vs1 : List Nat} {σ : L2.St} {H1 : Hp} {D : Addr} {Qd : Hp → Prop} (m : Nat → Nat) (R : Nat → Nat → V → Hp → Prop) (mono : ∀ i j v H H', Same H H' → R i j v H → R i j v H')
    (M : Nat) (hm : ∀ i, i < n → m i ≤ M) (hnM : n * M ≤ 999) (hD : H1 D = none) (hS : ∀ H, Same H1 H → G H)
    (hs : ∀ i x H H' (kk : L2.St → It → Hp → Prop), i < n → Same H1 (hid D H) → (∃ ys, H D = some (.lst ys)) → Y i H x H' → (∀ σ2 J1 H4, InC (m i) (R i) g1 te vs1 D H σ2 J1 H4 → kk σ2 J1 H4) →
      g x (wipe σ vs) H' fun σ2 H2 => wipe σ2 vs = wipe σ vs ∧ wi1 σ2 H2 (kk σ2))
    (hd : ∀ H (bs : List (List V)), Same H1 (hid D H) → H D = some (.lst bs.flatten) → bs.length = n → (∀ (i : Nat) b, bs[i]? = some b → Block (R i) (m i) b (hid D H)) → Qd H) :
    ∃ W : Nat → Nat → Hp → Prop, (∃ m, W 0 m (upd H1 D (.lst []))) ∧ ∀ i m H, W i m H →
      (J.stop i H ∧ Qd H) ∨ (J.go i H ∧ ∃ Nx : Hp → Prop, (∀ H', Nx H' → ∃ m', m' < m ∧ W (i + 1) m' H') ∧ ∀ x H', J.yld i H x H' → g x (wipe σ vs) H' fun σ2 H2 => wipe σ2 vs = wipe σ vs ∧ tYes σ2 H2 fun b H3 =>
        if b = true then wi1 σ2 H3 fun J1 H4 => ∃ W1 : Nat → Nat → Hp → Prop, (∃ m, W1 0 m H4) ∧ ∀ j k H, W1 j k H →
          (J1.stop j H ∧ Nx H) ∨ (J1.go j H ∧ ∃ Nx1 : Hp → Prop, (∀ H', Nx1 H' → ∃ k', k' < k ∧ W1 (j + 1) k' H') ∧ ∀ x H', J1.yld j H x H' → g1 x (wipe σ2 vs1) H' fun σ3 H5 => wipe σ3 vs1 = wipe σ2 vs1 ∧ tYes σ3 H5 fun b H6 =>
            if b = true then te σ3 H6 fun y H7 => ∃ acc, H7 D = some (.lst acc) ∧ acc.length < sizeLine ∧ Nx1 (upd H7 D (.lst (acc ++ [y]))) else Nx1 H6)
        else Nx H3) := by
  have fl : ∀ (bs : List (List V)), (∀ (i : Nat) b, bs[i]? = some b → b.length ≤ M) → bs.flatten.length ≤ bs.length * M := fun bs => by
    induction bs with
    | nil => intro _; simp
    | cons b r ih =>
      intro h
      have h1 := h 0 b rfl
      have h2 := ih fun i b hb => h (i + 1) b hb
      rw [List.flatten_cons, List.length_append, List.length_cons, Nat.succ_mul]
      omega
  let Pv : Nat → Hp → Prop := fun i H => ∃ bs : List (List V), Same H1 (hid D H) ∧ H D = some (.lst bs.flatten) ∧ bs.length = i ∧ ∀ (i : Nat) b, bs[i]? = some b → Block (R i) (m i) b (hid D H)
  refine ⟨fun i m H => m = n - i ∧ i ≤ n ∧ Pv i H, ⟨n, by simp, Nat.zero_le _, [], ?_, upd_same, rfl, fun i b h => by simp at h⟩, ?_⟩
  · intro b o e
    rw [hid_ne (ne_of_none e hD), upd_ne (ne_of_none e hD)]
    exact e
  rintro i mm H ⟨rfl, hi, p⟩
  obtain ⟨bs, s, e, l, r⟩ := id p
  have q := hS H (s.trans hid_same)
  by_cases hlt : i < n
  · refine .inr ⟨w.goes i H hlt q, Pv (i + 1), fun H' p' => ⟨n - (i + 1), by omega, rfl, hlt, p'⟩, fun x H' y => ?_⟩
    refine hs i x H H' _ hlt s ⟨_, e⟩ (w.yields i H x H' hlt q y) fun σ2 J1 H4 inc => ?_
    obtain ⟨s4, G1, Y1, w1, hG1, hs1⟩ := inc
    have e4 := s4 _ _ e
    refine lc_inner w1 (fun j H5 => ∃ b : List V, Same (hid D H4) (hid D H5) ∧ H5 D = some (.lst (bs.flatten ++ b)) ∧ Block (R i) j b (hid D H5)) ⟨[], Same.refl _, by rw [List.append_nil]; exact e4, rfl, fun j y h => by simp at h⟩ (fun j H5 _ h => ?_) (fun j x1 H5 H6 hj h y1 => ?_) (fun H5 h => ?_)
    · obtain ⟨b, s5, e5, _⟩ := h
      exact hG1 H5 s5 ⟨_, e5⟩
    · obtain ⟨b, s5, e5, b5⟩ := h
      refine hs1 j x1 H5 H6 _ hj s5 ⟨_, e5⟩ y1 fun y H7 s7 ry => ?_
      refine ⟨_, s7 _ _ e5, small1000 ?_, b ++ [y], ?_, ?_, ?_⟩
      · have h1 := fl bs fun i b hb => by
          have hi' : i < n := by
            have := (List.getElem?_eq_some_iff.mp hb).1
            omega
          rw [(r i b hb).1]
          exact hm i hi'
        have h2 : b.length < M := by
          have := hm i hlt
          rw [b5.1]
          omega
        have h3 : (i + 1) * M ≤ n * M := Nat.mul_le_mul_right _ hlt
        rw [Nat.succ_mul] at h3
        rw [List.length_append]
        rw [l] at h1
        omega
      · rw [hid_upd]
        exact s5.trans (hid_mono s7)
      · rw [upd_same, List.append_assoc]
      · rw [hid_upd]
        refine ⟨by rw [List.length_append, b5.1]; rfl, fun j' y' h => ?_⟩
        by_cases hj' : j' < b.length
        · rw [List.getElem?_append_left hj'] at h
          exact mono _ _ _ _ _ (hid_mono s7) (b5.2 j' y' h)
        · rw [List.getElem?_append_right (by omega)] at h
          have hj2 : j' - b.length = 0 := by
            have := (List.getElem?_eq_some_iff.mp h).1
            simp at this
            omega
          rw [hj2] at h
          simp at h
          subst h
          have hb := b5.1
          have : j' = j := by omega
          rw [this]
          exact ry
    · obtain ⟨b, s5, e5, b5⟩ := h
      refine ⟨bs ++ [b], s.trans ((hid_mono s4).trans s5), by rw [e5]; simp, by simp [l], fun i' b' h => ?_⟩
      by_cases hi' : i' < bs.length
      · rw [List.getElem?_append_left hi'] at h
        exact (r i' b' h).mono (mono i') ((hid_mono s4).trans s5)
      · rw [List.getElem?_append_right (by omega)] at h
        have hj2 : i' - bs.length = 0 := by
          have := (List.getElem?_eq_some_iff.mp h).1
          simp at this
          omega
        rw [hj2] at h
        simp at h
        subst h
        have : i' = i := by omega
        rw [this]
        exact b5
  · have e' : i = n := by omega
    subst e'
    exact .inl ⟨w.stops H q, hd H bs s e l r⟩
end
/-! ### slots that a comprehension sets are wiped -/
theorem wipe_in {σ : L2.St} {i : Nat} : ∀ {vs : List Nat}, i ∈ vs → (wipe σ vs)[i]? = if i < σ.length then some none else none
  | v :: vs, h => by
    unfold wipe
    rw [List.getElem?_set, wipe_length]
    by_cases e : v = i
    · subst e
      rw [if_pos rfl]
    · rw [if_neg e]
      exact wipe_in ((List.mem_cons.mp h).resolve_left fun z => e z.symm)
theorem wipe_eq {σ σ' : L2.St} {vs : List Nat} (hl : σ'.length = σ.length) (h : ∀ i, i ∉ vs → σ'[i]? = σ[i]?) : wipe σ' vs = wipe σ vs := by
  refine List.ext_getElem? fun i => ?_
  by_cases hi : i ∈ vs
  · rw [wipe_in hi, wipe_in hi, hl]
  · rw [wipe_out hi, wipe_out hi, h i hi]
theorem wipe1 {σ : L2.St} {vs : List Nat} {i : Nat} {x : Option V} (hi : i ∈ vs) : wipe ((wipe σ vs).set i x) vs = wipe σ vs := by
  refine wipe_eq (by rw [List.length_set, wipe_length]) fun j hj => ?_
  have n1 : i ≠ j := fun e => hj (e ▸ hi)
  rw [List.getElem?_set_ne n1, wipe_out hj]
theorem wipe2 {σ : L2.St} {vs : List Nat} {i j : Nat} {x y : Option V} (hi : i ∈ vs) (hj : j ∈ vs) : wipe (((wipe σ vs).set i x).set j y) vs = wipe σ vs := by
  refine wipe_eq (by rw [List.length_set, List.length_set, wipe_length]) fun l hl => ?_
  have n1 : i ≠ l := fun e => hl (e ▸ hi)
  have n2 : j ≠ l := fun e => hl (e ▸ hj)
  rw [List.getElem?_set_ne n2, List.getElem?_set_ne n1, wipe_out hl]
theorem look_out {σ : L2.St} {vs : List Nat} {i j l : Nat} {x y o : Option V} (h : σ[l]? = some o) (hl : l ∉ vs) (n1 : i ≠ l) (n2 : j ≠ l) : (((wipe σ vs).set i x).set j y)[l]? = some o := by
  rw [List.getElem?_set_ne n2, List.getElem?_set_ne n1, wipe_out hl, h]
theorem look_1 {σ : L2.St} {vs : List Nat} {i j : Nat} {x y : Option V} (hl : i < σ.length) (n : j ≠ i) : (((wipe σ vs).set i x).set j y)[i]? = some x := by
  rw [List.getElem?_set_ne n, List.getElem?_set_self (by rw [wipe_length]; exact hl)]
theorem look_2 {σ : L2.St} {vs : List Nat} {i j : Nat} {x y : Option V} (hl : j < σ.length) : (((wipe σ vs).set i x).set j y)[j]? = some y := by
  rw [List.getElem?_set_self (by rw [List.length_set, wipe_length]; exact hl)]
theorem look_len {σ : L2.St} {vs : List Nat} {i j n : Nat} {x y : Option V} (hl : σ.length = n) : (((wipe σ vs).set i x).set j y).length = n := by
  rw [List.length_set, List.length_set, wipe_length, hl]
/-- rows put one behind the other -/
theorem AllAre.flatten {α : Type} {R : V → α → Prop} : ∀ {bs : List (List V)} {xss : List (List α)}, bs.length = xss.length → (∀ (i : Nat) b xs, bs[i]? = some b → xss[i]? = some xs → AllAre R b xs) → AllAre R bs.flatten xss.flatten
  | [], [], _, _ => .nil
  | b :: bs, xs :: xss, l, h => by
    rw [List.flatten_cons, List.flatten_cons]
    exact (h 0 b xs rfl rfl).append (AllAre.flatten (by simpa using l) fun i b xs h1 h2 => h (i + 1) b xs h1 h2)
  | [], _ :: _, l, _ => by simp at l
  | _ :: _, [], l, _ => by simp at l
/-! ### sums of products -/
def dot (qs rs : List Rat) : Rat := rsum (List.zipWith (· * ·) qs rs)
theorem tops_dot {U G : Nat} (hU : 0 < U) (hG : 0 < G) : ∀ (qs rs : List Rat), (∀ q ∈ qs, q.den ∣ U) → (∀ r ∈ rs, r.den ∣ G) →
    Rat.divInt (List.zipWith (· * ·) (topsOf U qs) (topsOf G rs)).sum ((U : Int) * (G : Int)) = dot qs rs
  | [], _, _, _ => by simp [topsOf, dot, rsum]
  | _ :: _, [], _, _ => by simp [topsOf, dot, rsum]
  | q :: qs, r :: rs, h1, h2 => by
    have ih := tops_dot hU hG qs rs (fun x hx => h1 x (List.mem_cons_of_mem _ hx)) fun x hx => h2 x (List.mem_cons_of_mem _ hx)
    have t1 := tops_one hU (h1 q List.mem_cons_self)
    have t2 := tops_one hG (h2 r List.mem_cons_self)
    show Rat.divInt ((q.num * ((U / q.den : Nat) : Int)) * (r.num * ((G / r.den : Nat) : Int)) + (List.zipWith (· * ·) (topsOf U qs) (topsOf G rs)).sum) ((U : Int) * (G : Int)) = q * r + dot qs rs
    rw [divInt_add_same, ih, ← Rat.divInt_mul_divInt, t1, t2]
theorem den_add {a b : Rat} {S : Nat} (h0 : 0 < S) (ha : a.den ∣ S) (hb : b.den ∣ S) : (a + b).den ∣ S := by
  have e : a + b = Rat.divInt (a.num * ((S / a.den : Nat) : Int) + b.num * ((S / b.den : Nat) : Int)) (S : Int) := by
    rw [divInt_add_same, tops_one h0 ha, tops_one h0 hb]
  rw [e]
  exact den_dvd_bot h0
end Fb

/-! Part A16: fractions over a common bottom that are not great; sums of products of pairs. -/
namespace Fb
open PySem PySem.Spec PyProof.Rows L2
structure Nice (S M : Nat) (q : Rat) : Prop where
  den : q.den ∣ S
  abs : q.num.natAbs ≤ M * q.den
theorem Nice.mono {S S' M M' : Nat} {q : Rat} (h : Nice S M q) (d : S ∣ S') (l : M ≤ M') : Nice S' M' q := ⟨Nat.dvd_trans h.den d, Nat.le_trans h.abs (Nat.mul_le_mul_right _ l)⟩
theorem Nice.bd {S M n : Nat} {q : Rat} (h : Nice S M q) (S0 : 0 < S) (h1 : S < 2 ^ n) (h2 : M * S < 2 ^ n) : Bd n q := by
  have l := Nat.le_of_dvd S0 h.den
  exact ⟨Nat.lt_of_le_of_lt (Nat.le_trans h.abs (Nat.mul_le_mul_left _ l)) h2, Nat.lt_of_le_of_lt l h1⟩
theorem divInt_cross {t b : Int} {q : Rat} (hb : b ≠ 0) (h : Rat.divInt t b = q) : q.num * b = t * (q.den : Int) := by
  have e : Rat.divInt q.num (q.den : Int) = Rat.divInt t b := by rw [divInt_self, h]
  exact (Rat.divInt_eq_divInt_iff (den_ne q) hb).mp e
theorem Nice.of {t : Int} {b S M : Nat} (hb : 0 < b) (d : b ∣ S) (h : t.natAbs ≤ M * b) : Nice S M (Rat.divInt t (b : Int)) := by
  refine ⟨Nat.dvd_trans (den_dvd_bot hb) d, ?_⟩
  have e := divInt_cross (t := t) (b := (b : Int)) (by omega) rfl
  generalize Rat.divInt t (b : Int) = q at e
  have e2 := congrArg Int.natAbs e
  rw [Int.natAbs_mul, Int.natAbs_mul, Int.natAbs_natCast, Int.natAbs_natCast] at e2
  have h3 : q.num.natAbs * b ≤ (M * q.den) * b := by
    rw [e2, Nat.mul_right_comm]
    exact Nat.mul_le_mul_right _ h
  exact Nat.le_of_mul_le_mul_right h3 hb
theorem Nice.add {S M N : Nat} {x y : Rat} (S0 : 0 < S) (hx : Nice S M x) (hy : Nice S N y) : Nice S (M + N) (x + y) := by
  refine ⟨den_add S0 hx.den hy.den, ?_⟩
  have e := divInt_cross (dens_ne x y) (rat_add x y)
  generalize x + y = q at e
  have e2 := congrArg Int.natAbs e
  rw [Int.natAbs_mul, Int.natAbs_mul, Int.natAbs_mul, Int.natAbs_natCast, Int.natAbs_natCast, Int.natAbs_natCast] at e2
  have h1 : (x.num * (y.den : Int) + y.num * (x.den : Int)).natAbs ≤ (M + N) * (x.den * y.den) := by
    refine Nat.le_trans (Int.natAbs_add_le _ _) ?_
    rw [Int.natAbs_mul, Int.natAbs_mul, Int.natAbs_natCast, Int.natAbs_natCast, Nat.add_mul]
    refine Nat.add_le_add ?_ ?_
    · rw [← Nat.mul_assoc]
      exact Nat.mul_le_mul_right _ hx.abs
    · rw [Nat.mul_comm x.den, ← Nat.mul_assoc]
      exact Nat.mul_le_mul_right _ hy.abs
  have h3 : q.num.natAbs * (x.den * y.den) ≤ ((M + N) * q.den) * (x.den * y.den) := by
    rw [e2, Nat.mul_right_comm]
    exact Nat.mul_le_mul_right _ h1
  exact Nat.le_of_mul_le_mul_right h3 (Nat.mul_pos x.den_pos y.den_pos)
theorem Nice.neg {S M : Nat} {x : Rat} (h : Nice S M x) : Nice S M (-x) := by
  refine ⟨by rw [Rat.neg_den]; exact h.den, ?_⟩
  rw [Rat.neg_num, Rat.neg_den, Int.natAbs_neg]
  exact h.abs
theorem Nice.sub {S M N : Nat} {x y : Rat} (S0 : 0 < S) (hx : Nice S M x) (hy : Nice S N y) : Nice S (M + N) (x - y) := by
  rw [Rat.sub_eq_add_neg]
  exact hx.add S0 hy.neg
theorem Nice.mul {S T M N : Nat} {x y : Rat} (hx : Nice S M x) (hy : Nice T N y) : Nice (S * T) (M * N) (x * y) := by
  have e := divInt_cross (dens_ne x y) (rat_mul x y)
  have dd : (x * y).den ∣ x.den * y.den := by
    rw [← rat_mul, ← Int.natCast_mul]
    exact den_dvd_bot (Nat.mul_pos x.den_pos y.den_pos)
  refine ⟨Nat.dvd_trans dd (Nat.mul_dvd_mul hx.den hy.den), ?_⟩
  generalize x * y = q at e
  have e2 := congrArg Int.natAbs e
  rw [Int.natAbs_mul, Int.natAbs_mul, Int.natAbs_mul, Int.natAbs_mul, Int.natAbs_natCast, Int.natAbs_natCast, Int.natAbs_natCast] at e2
  have h3 : q.num.natAbs * (x.den * y.den) ≤ ((M * N) * q.den) * (x.den * y.den) := by
    rw [e2]
    have := Nat.mul_le_mul hx.abs hy.abs
    calc x.num.natAbs * y.num.natAbs * q.den ≤ (M * x.den) * (N * y.den) * q.den := Nat.mul_le_mul_right _ this
      _ = M * N * q.den * (x.den * y.den) := by
        simp only [Nat.mul_comm, Nat.mul_assoc, Nat.mul_left_comm]
  exact Nat.le_of_mul_le_mul_right h3 (Nat.mul_pos x.den_pos y.den_pos)
theorem Nice.zero {S : Nat} : Nice S 0 0 := ⟨Nat.one_dvd _, by decide⟩
theorem Nice.rsum {S M : Nat} (S0 : 0 < S) : ∀ {qs : List Rat}, (∀ q ∈ qs, Nice S M q) → Nice S (M * qs.length) (Fb.rsum qs)
  | [], _ => by
    rw [List.length_nil, Nat.mul_zero]
    exact Nice.zero
  | q :: r, h => by
    have h1 := (h q List.mem_cons_self).add S0 (Nice.rsum S0 (qs := r) fun x hx => h x (List.mem_cons_of_mem _ hx))
    rw [List.length_cons, Nat.mul_succ, Nat.add_comm]
    exact h1
theorem mem_zip {qs rs : List Rat} {z : Rat} (h : z ∈ List.zipWith (· * ·) qs rs) : ∃ q ∈ qs, ∃ r ∈ rs, z = q * r := by
  obtain ⟨i, hi, e⟩ := List.mem_iff_getElem.mp h
  rw [List.getElem_zipWith] at e
  exact ⟨_, List.getElem_mem _, _, List.getElem_mem _, e.symm⟩
/-- row by row is the same as all in one -/
theorem dot_rows : ∀ {css pss : List (List Rat)}, css.length = pss.length → (∀ (i : Nat) c p, css[i]? = some c → pss[i]? = some p → c.length = p.length) → dot css.flatten pss.flatten = rsum (List.zipWith dot css pss)
  | [], [], _, _ => rfl
  | c :: css, p :: pss, l, h => by
    have ih := dot_rows (css := css) (pss := pss) (by simpa using l) fun i c p h1 h2 => h (i + 1) c p h1 h2
    have h0 : c.length = p.length := h 0 c p rfl rfl
    show dot (c ++ css.flatten) (p ++ pss.flatten) = dot c p + rsum (List.zipWith dot css pss)
    rw [← ih]
    unfold dot
    rw [List.zipWith_append h0, rsum_append]
  | [], _ :: _, l, _ => by simp at l
  | _ :: _, [], l, _ => by simp at l
theorem lcm_len {qs : List Rat} {n N a : Nat} (h : ∀ q ∈ qs, q.den < 2 ^ n) (l : qs.length ≤ N) (ha : 1 + n * N ≤ a) : lcmOn 1 qs < 2 ^ a := by
  have h1 := lcmOn_lt qs 1 n 1 h (by decide)
  refine Nat.lt_of_lt_of_le h1 (Nat.pow_le_pow_right (by decide) ?_)
  have := Nat.mul_le_mul_left n l
  omega
theorem flat_len {l : List (List Rat)} {k : Nat} (h : ∀ qs ∈ l, qs.length ≤ k) : l.flatten.length ≤ l.length * k := by
  induction l with
  | nil => simp
  | cons b r ih =>
    have h1 := h b List.mem_cons_self
    have h2 := ih fun q hq => h q (List.mem_cons_of_mem _ hq)
    rw [List.flatten_cons, List.length_append, List.length_cons, Nat.succ_mul]
    omega
theorem mem_rows {l : List (List Rat)} {q : Rat} (h : q ∈ l.flatten) : ∃ r ∈ l, q ∈ r := List.mem_flatten.mp h
/-- [e for .. in ..] over any walk, each turn at most c draws -/
theorem lc_wellW {J : It} {n : Nat} {G : Hp → Prop} {Y : Nat → Hp → V → Hp → Prop} (w : Walk J n G Y) {g : TG} {te : TE} {vs : List Nat} {σ : L2.St} {H1 : Hp} {D a : Addr} {Qd : Hp → Prop} (R : V → Hp → Prop) (mono : ∀ v H H', Same H H' → R v H → R v H') (c f : Nat)
    (hD : H1 D = none) (hw : WellAt H1 a (f + c * n)) (hn : n ≤ 1000) (hS : ∀ H, Same (hid a H1) (hid a H) → G H)
    (hs : ∀ i x H H' m (k : V → Hp → Prop), i < n → WellAt H a (m + c) → Same (hid a H1) (hid D (hid a H)) → (∃ ys, H D = some (.lst ys)) → Y i H x H' → (∀ y H4, Same (hid a H) (hid a H4) → WellAt H4 a m → R y (hid D (hid a H4)) → k y H4) →
      g x (wipe σ vs) H' fun σ2 H2 => wipe σ2 vs = wipe σ vs ∧ te σ2 H2 k)
    (hd : ∀ H ys, Same (hid a H1) (hid D (hid a H)) → WellAt H a f → H D = some (.lst ys) → ys.length = n → (∀ y ∈ ys, R y (hid D (hid a H))) → Qd H) :
    ∃ W : Nat → Nat → Hp → Prop, (∃ m, W 0 m (upd H1 D (.lst []))) ∧ ∀ i m H, W i m H →
      (J.stop i H ∧ Qd H) ∨ (J.go i H ∧ ∃ Nx : Hp → Prop, (∀ H', Nx H' → ∃ m', m' < m ∧ W (i + 1) m' H') ∧ ∀ x H', J.yld i H x H' → g x (wipe σ vs) H' fun σ2 H2 => wipe σ2 vs = wipe σ vs ∧ tYes σ2 H2 fun b H3 =>
        if b = true then te σ2 H3 fun y H4 => ∃ acc, H4 D = some (.lst acc) ∧ acc.length < sizeLine ∧ Nx (upd H4 D (.lst (acc ++ [y]))) else Nx H3) := by
  have nD : D ≠ a := hw.ne hD
  refine lc_it w (fun i H => ∃ ys, Same (hid a H1) (hid D (hid a H)) ∧ WellAt H a (f + c * (n - i)) ∧ H D = some (.lst ys) ∧ ys.length = i ∧ ∀ y ∈ ys, R y (hid D (hid a H))) ⟨[], ?_, hw.upd nD, upd_same, rfl, fun y h => by simp at h⟩ (fun i H _ h => ?_) (fun i x H H' hi h y => ?_) (fun H h => ?_)
  · rw [hid2_upd nD]
    intro b o e
    have hb : b ≠ D := fun z => by
      rw [z, hid_ne nD, hD] at e
      cases e
    rw [hid_ne hb]
    exact e
  · obtain ⟨ys, s, _⟩ := h
    exact hS H (s.trans hid_same)
  · obtain ⟨ys, s, w, e, l, r⟩ := h
    have ec : f + c * (n - i) = (f + c * (n - (i + 1))) + c := by
      have : n - i = (n - (i + 1)) + 1 := by omega
      rw [this, Nat.mul_succ]
      omega
    rw [ec] at w
    refine hs i x H H' _ (fun y H4 => ∃ acc, H4 D = some (.lst acc) ∧ acc.length < sizeLine ∧ ∃ ys, Same (hid a H1) (hid D (hid a (upd H4 D (.lst (acc ++ [y]))))) ∧ WellAt (upd H4 D (.lst (acc ++ [y]))) a (f + c * (n - (i + 1))) ∧ (upd H4 D (.lst (acc ++ [y]))) D = some (.lst ys) ∧ ys.length = i + 1 ∧ ∀ y' ∈ ys, R y' (hid D (hid a (upd H4 D (.lst (acc ++ [y])))))) hi w s ⟨_, e⟩ y fun y H4 s4 w4 ry => ?_
    have e4 : H4 D = some (.lst ys) := by
      have := s4 D (.lst ys) (by rw [hid_ne nD]; exact e)
      rw [hid_ne nD] at this
      exact this
    refine ⟨ys, e4, small1000 (by omega), ys ++ [y], ?_, w4.upd nD, upd_same, by simp [l], fun y' h => ?_⟩
    · rw [hid2_upd nD]
      exact s.trans (hid_mono s4)
    · rw [hid2_upd nD]
      rcases List.mem_append.mp h with h | h
      · exact mono _ _ _ (hid_mono s4) (r y' h)
      · have : y' = y := by simpa using h
        rw [this]
        exact ry
  · obtain ⟨ys, s, w, e, l, r⟩ := h
    rw [Nat.sub_self, Nat.mul_zero] at w
    exact hd H ys s w e l r
end Fb

/-! Part S1: sets of objects that are found by a key of their own (tuples of ints and texts): searching, laying anew, adding. -/
namespace Fb
open PySem PySem.Spec PyProof.Rows L2
theorem units1 {u : Nat} (h : u + 64 < cLine) : u + 1 < cLine := by omega
theorem units2 {u : Nat} (h : u + 64 < cLine) : u + 2 < cLine := by omega
section
variable {P : Program} {w : World}
/-- objects known by keys: their hash, and what the model asks of two of them -/
structure Known (P : Program) (w : World) (κ : Type) [DecidableEq κ] where
  at_ : Heap → κ → Addr → Prop
  hf : κ → Int
  eq_ : ∀ {A : Around} {E : Value → Shared → Prop} {s : Shared} {k l : κ} {b c : Addr} {Q : Bool → Shared → Prop}, A.units < cLine → at_ s.heap k b → at_ s.heap l c → Q (decide (k = l)) s → wpAny (model P w) A (eqBool (.ref b) (.ref c)) Q E s
  unseen : ∀ {A : Around} {E : Value → Shared → Prop} {s : Shared} {k : κ} {b : Addr} {ys : List Value} {Q : Bool → Shared → Prop}, at_ s.heap k b → (∀ y ∈ ys, ∃ l c, y = Value.ref c ∧ at_ s.heap l c) → Q false s → wpAny (model P w) A (searchCouldBeSeen (.ref b) ys) Q E s
  byVal : ∀ {A : Around} {E : Value → Shared → Prop} {s : Shared} {k : κ} {b : Addr} {Q : Bool → Shared → Prop}, at_ s.heap k b → (∀ r, Q r s) → wpAny (model P w) A (hashByValue 8 (.ref b)) Q E s
  stays : ∀ {h h' : Heap} {k : κ} {a b : Addr} {o : Obj} {es : Array (Int × Value)} {ep : Nat} {t : SetTable}, at_ h k b → h.get? a = some o → o.data = .set es ep t → Heap.SameBut a h h' → at_ h' k b
  keeps : ∀ {h h' : Heap} {k : κ} {b : Addr}, at_ h k b → (∀ c o, h.get? c = some o → h'.get? c = some o) → at_ h' k b
variable {κ : Type} [DecidableEq κ] (N : Known P w κ)
def entries (L : List (Addr × κ)) : List (Int × Value) := L.map fun p => (N.hf p.2, Value.ref p.1)
/-- a set of them, with its table -/
structure KSet (h : Heap) (a : Addr) (L : List (Addr × κ)) (es : Array (Int × Value)) (ep : Nat) (t : SetTable) : Prop where
  obj : ∃ o, h.get? a = some o ∧ o.ExactSet ∧ o.data = .set es ep t
  ents : es.toList = entries N L
  tab : TabOk t (L.map fun p => N.hf p.2)
  once : (L.map (·.2)).Nodup
  all : ∀ p ∈ L, N.at_ h p.2 p.1
  ld : w.params.followText "set-order" = true ∨ t.led = true
  room : L.length * 5 < t.mask * 3
  few : L.length < 64
variable {N}
theorem entries_len {L : List (Addr × κ)} {es : Array (Int × Value)} (h : es.toList = entries N L) : es.size = L.length := by
  rw [← Array.length_toList, h]
  exact List.length_map ..
theorem entries_at {L : List (Addr × κ)} {es : Array (Int × Value)} (h : es.toList = entries N L) {i : Nat} {p : Addr × κ} (hp : L[i]? = some p) : es[i]? = some (N.hf p.2, Value.ref p.1) := by
  rw [← Array.getElem?_toList, h, entries, List.getElem?_map, hp]
  rfl
theorem fits_by {t : SetTable} {n : Nat} (h1 : t.place.size = n) (h2 : t.dummies = #[]) (h3 : n ≤ t.mask) : t.fits n = true := by
  simp only [SetTable.fits, SetTable.fill, h2, Bool.and_eq_true, beq_iff_eq, decide_eq_true_eq]
  exact ⟨h1, by show t.place.size + 0 ≤ t.mask; omega⟩
variable {h₀ : Heap} {a : Addr} {L : List (Addr × κ)} {es : Array (Int × Value)} {ep : Nat} {t : SetTable}
theorem KSet.fit {s : Shared} (R : KSet N s.heap a L es ep t) : t.fits es.size = true := by
  have e1 := R.tab.sz
  have e2 := entries_len R.ents
  have e3 := R.room
  rw [List.length_map] at e1
  exact fits_by (by omega) R.tab.dm (by omega)
theorem not_gave {t : SetTable} (h : MaskOk t.mask) : ¬ t.gaveWay = true := by
  unfold SetTable.gaveWay
  rw [mask_odd h]
  decide
/-- the probe's way from its c-th place on -/
abbrev wayP (m : Nat) (h : Int) (c : Nat) : SetTable.Probe := nth m (runAt m (SetTable.bits h % (m + 1)) (SetTable.bits h)) c
theorem nth_clean (m : Nat) : ∀ (n : Nat) (p : SetTable.Probe), p.dummy = none → (nth m p n).dummy = none
  | 0, _, h => h
  | n + 1, p, h => nth_clean m n (adv m p) (by unfold adv; split <;> exact h)
theorem wayP_from (m : Nat) (h : Int) (c q : Nat) : nth m (wayP m h c) q = wayP m h (c + q) := (nth_add m c _ q).symm
/-- what is asked of the search -/
structure Ask (N : Known P w κ) (L : List (Addr × κ)) (t : SetTable) (k : κ) (K : Nat) : Prop where
  fuel : K < 10 * SetTable.turns t.mask
  empty : way t.mask (N.hf k) K ∉ t.place.toList
  full : ∀ c, c < K → way t.mask (N.hf k) c ∈ t.place.toList
theorem seek {A : Around} {E : Value → Shared → Prop} {s : Shared} (R : KSet N s.heap a L es ep t) {x : Addr} {k : κ} (hx : N.at_ s.heap k x) (hu : A.units < cLine) {K : Nat} (W : Ask N L t k K) {Q : SetFound → Shared → Prop}
    (yes : k ∈ L.map (·.2) → Q (.there none) s) (no : k ∉ L.map (·.2) → Q (.free (way t.mask (N.hf k) K) false) s) (m : Nat) :
    ∀ (c f : Nat) (st : Option SetTable.Probe), K - c = m → m < f → c ≤ K → st.getD (t.probeStart (N.hf k)) = wayP t.mask (N.hf k) c →
      (∀ (i : Nat) p, L[i]? = some p → p.2 = k → ∃ d, c ≤ d ∧ d < K ∧ t.place.toList[i]? = some (way t.mask (N.hf k) d)) → wpAny (model P w) A (setSearchFrom a (.ref x) (N.hf k) true f st) Q E s := by
  induction m using Nat.strongRecOn with
  | ind m ih =>
  intro c f st hm hf hc hst ahead
  obtain ⟨o, ho, hex, hd⟩ := R.obj
  cases f with
  | zero => omega
  | succ f =>
  rw [setSearchFrom_succ]
  refine wpAny_bind (wpAny_setState_of ho hd R.fit ?_)
  dsimp only
  refine wp_if_neg (not_gave R.tab.mok) ?_
  try refine wpAny_bind (wpAny_pure ?_)
  have J : ∀ q, (nth t.mask (wayP t.mask (N.hf k) c) q).j = way t.mask (N.hf k) (c + q) := fun q => congrArg SetTable.Probe.j (wayP_from t.mask (N.hf k) c q)
  have at_h : ∀ (i : Nat) p, L[i]? = some p → (fun i => (es[i]?.map (·.1)).getD 0) i = N.hf p.2 := fun i p hp => by
    dsimp only
    rw [entries_at R.ents hp]
    rfl
  have end_ : c + (K - c) = K := by omega
  have g := go_spec t R.tab.ris R.tab.dm (fun i => (es[i]?.map (·.1)).getD 0) (N.hf k) (10 * SetTable.turns t.mask) (K - c) (wayP t.mask (N.hf k) c) (nth_clean _ _ _ rfl) (by have := W.fuel; omega)
    (fun q hq => by rw [J]; exact W.full _ (by omega)) (by rw [J, end_]; exact W.empty)
  rcases g with ⟨q, i, hq, hi, hh, before, met⟩ | ⟨none_, met⟩
  · have met' : t.probe (fun i => (es[i]?.map (·.1)).getD 0) (N.hf k) (st.getD (t.probeStart (N.hf k))) = some (.candidate (way t.mask (N.hf k) (c + q)) i (wayP t.mask (N.hf k) (c + (q + 1)))) := by
      rw [hst, ← J, ← wayP_from]
      exact met
    rw [met']
    dsimp only
    rw [J] at hi
    have il : i < L.length := by
      have e1 := (List.getElem?_eq_some_iff.mp hi).1
      have e2 := R.tab.sz
      rw [List.length_map] at e2
      rw [Array.length_toList] at e1
      omega
    have hp := List.getElem?_eq_getElem il
    generalize L[i] = p at hp
    have pm := List.mem_of_getElem? hp
    have live := slot_live R.tab.ris hi
    have tail : wpAny (model P w) A (searchRest a (.ref x) (N.hf k) true f es t (way t.mask (N.hf k) (c + q)) i (wayP t.mask (N.hf k) (c + (q + 1)))) Q E s := by
      unfold searchRest
      rw [entries_at R.ents hp]
      dsimp only
      refine wpAny_bind (wpAny_holding (N.eq_ hu (R.all p pm) hx ?_))
      refine wpAny_bind (wpAny_setState_of ho hd R.fit ?_)
      dsimp only
      by_cases e : p.2 = k
      · exact wp_if_pos (by simp [e]) (wpAny_pure (yes (List.mem_map.mpr ⟨p, pm, e⟩)))
      · refine wp_if_neg (by simp [e]) ?_
        try refine wpAny_bind (wpAny_pure ?_)
        rw [sameMem]
        dsimp only
        simp only [if_true, live, entries_at R.ents hp]
        refine wpAny_bind (wpAny_isSame_ref_self (wpAny_bind (wpAny_pure ?_)))
        simp only [if_true]
        refine wp_if_neg (by simp [e]) ?_
        refine ih (K - (c + (q + 1))) (by omega) (c + (q + 1)) f _ rfl (by omega) (by omega) rfl fun i' p' hp' hk' => ?_
        obtain ⟨d, d1, d2, d3⟩ := ahead i' p' hp' hk'
        refine ⟨d, ?_, d2, d3⟩
        have n1 : ¬ d < c + q := fun z => before (d - c) i' (by omega) (by rw [J, show c + (d - c) = d by omega]; exact d3) ((at_h i' p' hp').trans (congrArg N.hf hk'))
        have n2 : d ≠ c + q := fun z => by
          rw [z] at d3
          have l2 := slot_live R.tab.ris d3
          rw [live] at l2
          cases l2
          rw [hp] at hp'
          cases hp'
          exact e hk'
        omega
    by_cases hl : t.led = true
    · refine wp_if_neg (by simp [hl]) ?_
      try refine wpAny_bind (wpAny_pure ?_)
      exact tail
    · refine wp_if_pos (by simp [hl]) ?_
      refine wpAny_bind (N.unseen hx (fun y hy => ?_) ?_)
      · obtain ⟨e, he, rfl⟩ := List.mem_map.mp hy
        have he : e ∈ es.toList := by
          have : e ∈ es ∧ e.1 = N.hf k := by simpa using he
          simpa using this.1
        rw [R.ents] at he
        obtain ⟨p', hp', rfl⟩ := List.mem_map.mp he
        exact ⟨p'.2, p'.1, rfl, R.all p' hp'⟩
      · refine wp_if_neg (by decide) ?_
        try refine wpAny_bind (wpAny_pure ?_)
        exact tail
  · have met' : t.probe (fun i => (es[i]?.map (·.1)).getD 0) (N.hf k) (st.getD (t.probeStart (N.hf k))) = some (.empty (way t.mask (N.hf k) K) none) := by
      have e : way t.mask (N.hf k) K = (nth t.mask (wayP t.mask (N.hf k) c) (K - c)).j := by rw [J, end_]
      rw [hst, e]
      exact met
    rw [met']
    dsimp only
    refine wpAny_pure (no fun hk => ?_)
    obtain ⟨p, pm, e⟩ := List.mem_map.mp hk
    obtain ⟨i, hi, ei⟩ := List.getElem_of_mem pm
    have hp : L[i]? = some p := by rw [List.getElem?_eq_getElem hi, ei]
    obtain ⟨d, d1, d2, d3⟩ := ahead i p hp e
    exact none_ (d - c) i (by omega) (by rw [J, show c + (d - c) = d by omega]; exact d3) ((at_h i p hp).trans (congrArg N.hf e))
theorem search {A : Around} {E : Value → Shared → Prop} {s : Shared} (R : KSet N s.heap a L es ep t) {x : Addr} {k : κ} (hx : N.at_ s.heap k x) (hu : A.units < cLine) {Q : SetFound → Shared → Prop} (yes : k ∈ L.map (·.2) → Q (.there none) s)
    (no : ∀ K, Ask N L t k K → k ∉ L.map (·.2) → Q (.free (way t.mask (N.hf k) K) false) s) : wpAny (model P w) A (setSearch a (.ref x) (N.hf k) true) Q E s := by
  have rm := R.room
  obtain ⟨K, k1, k2, k3⟩ := R.tab.first (by rw [List.length_map]; omega) (N.hf k)
  have W : Ask N L t k K := ⟨k1, k2, k3⟩
  have small : K < 100000 := by
    have : 10 * SetTable.turns t.mask ≤ 1420 := by
      unfold SetTable.turns
      rcases R.tab.mok with e | e | e <;> omega
    omega
  unfold setSearch
  refine seek R hx hu W yes (no K W) (K - 0) 0 100000 none rfl (by omega) (Nat.zero_le _) rfl fun i p hp hk => ?_
  have il : i < t.place.toList.length := by
    have e1 := (List.getElem?_eq_some_iff.mp hp).1
    have e2 := R.tab.sz
    rw [List.length_map] at e2
    rw [Array.length_toList]
    omega
  have hj := List.getElem?_eq_getElem il
  obtain ⟨d, d1, d2⟩ := R.tab.before k2 (i := i) (by rw [List.getElem?_map, hp, ← hk]; rfl) hj
  exact ⟨d, Nat.zero_le _, d1, by rw [hj, d2]⟩
/-! ### laid anew -/
theorem filterMap_ix {α : Type} (L : List α) : ∀ n, n ≤ L.length → (List.range n).filterMap (fun i => L[i]?) = L.take n
  | 0, _ => rfl
  | n + 1, h => by
    have hl : n < L.length := h
    have e := List.getElem?_eq_getElem hl
    rw [List.range_succ, List.filterMap_append, filterMap_ix L n (Nat.le_of_lt hl), List.take_add_one, e]
    simp [List.filterMap, e]
theorem reorder (order : List Nat) (hs : es.toList = entries N L) (hp : ∀ i ∈ order, i < L.length) :
    order.filterMap (fun i => es[i]?) = entries N (order.filterMap fun i => L[i]?) ∧ ((order.filterMap fun i => L[i]?).map fun p => N.hf p.2) = order.map fun i => (es.map (·.1)).getD i 0 := by
  induction order with
  | nil => exact ⟨rfl, rfl⟩
  | cons i r ih =>
    have hi := hp i List.mem_cons_self
    obtain ⟨e1, e2⟩ := ih fun j hj => hp j (List.mem_cons_of_mem _ hj)
    have g := List.getElem?_eq_getElem hi
    have ge := entries_at hs g
    refine ⟨?_, ?_⟩
    · rw [List.filterMap_cons_some ge, List.filterMap_cons_some g, e1]
      rfl
    · rw [List.filterMap_cons_some g, List.map_cons, List.map_cons, e2]
      congr 1
      have e5 : (es.map (·.1))[i]? = some (N.hf (L[i]).2) := by
        rw [Array.getElem?_map, ge]
        rfl
      simp [Array.getD_eq_getD_getElem?, e5]
theorem relay {A : Around} {E : Value → Shared → Prop} {s : Shared} {o : Obj} (ho : s.heap.get? a = some o) (hex : o.ExactSet) (hd : o.data = .set es ep t) (he : es.toList = entries N L) (hz : t.place.size = es.size) (hdm : t.dummies = #[]) (hle : es.size ≤ t.mask)
    (once : (L.map (·.2)).Nodup) (all : ∀ p ∈ L, N.at_ s.heap p.2 p.1) (ld : w.params.followText "set-order" = true ∨ t.led = true) (few : L.length < 64) {want M : Nat}
    (hw : SetTable.sizeAbove want - 1 = M) (hM : MaskOk M) (h128 : SetTable.sizeAbove want ≤ 128) (room : L.length * 5 < M * 3) {Q : Unit → Shared → Prop}
    (q : ∀ h' L' es' ep' t', Heap.SameBut a s.heap h' → KSet N h' a L' es' ep' t' → L'.Perm L → Q () { s with heap := h' }) : wpAny (model P w) A (setRelay a want) Q E s := by
  have ln := entries_len he
  obtain ⟨t', order, e, hp, T, em, el, epl, ed⟩ := relaid_ok t (hs := es.map (·.1)) (wanted := want) hw hM (by rw [Array.size_map, ln]; omega)
  rw [Array.size_map, ln] at hp
  obtain ⟨r1, r2⟩ := reorder order.toList he fun i hi => List.mem_range.mp (hp.mem_iff.mp hi)
  rw [← r2] at T
  have pm : (order.toList.filterMap fun i => L[i]?).Perm L := by
    have := hp.filterMap fun i => L[i]?
    rw [filterMap_ix L _ (Nat.le_refl _), List.take_length] at this
    exact this
  generalize (order.toList.filterMap fun i => L[i]?) = L2 at r1 T pm
  have r1 : (order.filterMap (es[·]?)).toList = entries N L2 := by
    rw [Array.toList_filterMap]
    exact r1
  have hs2 : (order.filterMap (es[·]?)).size = es.size := by rw [entries_len r1, pm.length_eq, ln]
  rw [setRelay_eq]
  refine wpAny_bind (wpAny_setState_of ho hd (fits_by hz hdm hle) ?_)
  dsimp only
  refine wp_if_neg (by rw [sizeLine_eq]; omega) ?_
  try refine wpAny_bind (wpAny_pure ?_)
  rw [e]
  dsimp only
  refine wpAny_bind ?_
  refine wp_if_neg (by rw [hs2]; simp) ?_
  try refine wpAny_bind (wpAny_pure ?_)
  refine wpAny_pure ?_
  dsimp only
  refine wpAny_storeSet_of ho hd ?_ (by rw [hs2, ln, sizeLine_eq]; omega)
  have sb : Heap.SameBut a s.heap (s.heap.update a (Obj.putSet (order.filterMap (es[·]?)) t')) := Heap.SameBut.update ..
  exact q _ L2 _ (ep + 1) t' sb ⟨⟨_, store_at ho hd, ⟨hex.1, hex.2.1, hex.2.2⟩, rfl⟩, r1, T, (pm.map (·.2)).nodup_iff.mpr once, fun p hm => N.stays (all p (pm.mem_iff.mp hm)) ho hd sb, by rw [el]; exact ld, by rw [pm.length_eq, em]; exact room, by rw [pm.length_eq]; exact few⟩ pm
/-! ### adding -/
theorem add_key {A : Around} {E : Value → Shared → Prop} {s : Shared} (R : KSet N s.heap a L es ep t) {x : Addr} {k : κ} (hx : N.at_ s.heap k x) (hu : A.units < cLine) (few : L.length + 1 < 64) {Q : Bool → Shared → Prop}
    (q : ∀ b h' L' es' ep' t', Heap.SameBut a s.heap h' → KSet N h' a L' es' ep' t' → (k ∈ L.map (·.2) → L' = L) → (k ∉ L.map (·.2) → L'.Perm ((x, k) :: L)) → Q b { s with heap := h' }) :
    wpAny (model P w) A (setAddHashed a (.ref x) (N.hf k)) Q E s := by
  obtain ⟨o, ho, hex, hd⟩ := R.obj
  have ln := entries_len R.ents
  have rm := R.room
  unfold setAddHashed
  refine wpAny_holding ?_
  rw [show (100000 : Nat) = 99999 + 1 from rfl, setAddHashedIn_succ]
  refine wpAny_bind (wpAny_setState_of ho hd R.fit ?_)
  dsimp only
  refine wp_if_neg (by simp [byScan, Value.scannable]) ?_
  try refine wpAny_bind (wpAny_pure ?_)
  refine wpAny_bind (search R hx hu (fun hm => ?_) fun K W hm => ?_)
  · exact wpAny_pure (q false s.heap L es ep t (Heap.SameBut.refl a s.heap) R (fun _ => rfl) fun z => absurd hm z)
  · dsimp only
    refine wpAny_bind (wpAny_setState_of ho hd R.fit ?_)
    dsimp only
    obtain ⟨q1, q2, q3, q4, q5, q6, _, _, q9⟩ := R.tab.put W.empty W.full
    generalize t.put (way t.mask (N.hf k) K) = tp at q1 q3 q4 q5 q9 ⊢
    obtain ⟨t0, i⟩ := tp
    dsimp only at q1 q3 q4 q5 q9 ⊢
    subst q1
    generalize SetTable.below t.place (way t.mask (N.hf k) K) = i at q2 q3 ⊢
    have either : ∀ (r : Bool), ∃ t1 : SetTable, (if r = true then t0 else { t0 with plain := false }) = t1 ∧ t1.place = t0.place ∧ t1.dummies = t0.dummies ∧ t1.mask = t0.mask ∧ t1.led = t0.led ∧ t1.fill = t0.fill := fun r => by
      cases r
      · exact ⟨_, rfl, rfl, rfl, rfl, rfl, rfl⟩
      · exact ⟨_, rfl, rfl, rfl, rfl, rfl, rfl⟩
    have goOn : ∀ r, wpAny (model P w) A (do
        storeSet a (SetTable.insertAt es i (N.hf k, Value.ref x)) (if r = true then t0 else { t0 with plain := false })
        if !false && (if r = true then t0 else { t0 with plain := false }).tooFull then setRelay a (SetTable.grown (es.size + 1))
        return true) Q E s := fun r => ?_
    · by_cases hpl : t0.plain = true
      · first
          | (refine wpAny_bind ?_; refine wp_if_pos hpl ?_; exact N.byVal hx goOn)
          | exact wp_if_pos hpl (wpAny_bind (N.byVal hx goOn))
      · first
          | (refine wpAny_bind ?_; refine wp_if_neg hpl ?_; exact wpAny_pure (goOn true))
          | exact wp_if_neg hpl (wpAny_bind (wpAny_pure (goOn true)))
    obtain ⟨t1, et, f1, f2, f3, f4, f5⟩ := either r
    rw [et]
    have q3 : TabOk t1 _ := ⟨by rw [f1]; exact q3.ris, by rw [f2]; exact q3.dm, by rw [f1]; exact q3.sz, by rw [f3]; exact q3.mok, by rw [f1, f3]; exact q3.bd, by rw [f1, f3]; exact q3.reach⟩
    rw [← f3] at q4
    rw [← f4] at q5
    rw [← f5] at q9
    clear f1 f2 f3 f4 f5 et either
    have he : (SetTable.insertAt es i (N.hf k, Value.ref x)).toList = entries N (L.take i ++ (x, k) :: L.drop i) := by
      rw [SetTable.toList_insertAt, R.ents]
      simp only [entries, List.map_append, List.map_cons, List.map_take, List.map_drop]
    have pm := put_perm L i (x, k)
    rw [show (L.map fun p => N.hf p.2).take i ++ N.hf k :: (L.map fun p => N.hf p.2).drop i = (L.take i ++ (x, k) :: L.drop i).map (fun p => N.hf p.2) by simp only [List.map_append, List.map_cons, List.map_take, List.map_drop]] at q3
    generalize SetTable.insertAt es i (N.hf k, Value.ref x) = es1 at he ⊢
    generalize L.take i ++ (x, k) :: L.drop i = L1 at pm q3 he
    have l1 : L1.length = L.length + 1 := pm.length_eq
    have z1 : es1.size = L.length + 1 := by rw [entries_len he, l1]
    have once1 : (L1.map (·.2)).Nodup := (pm.map (·.2)).nodup_iff.mpr (List.nodup_cons.mpr ⟨hm, R.once⟩)
    refine wpAny_bind (wpAny_storeSet_of ho hd ?_ (by rw [z1, sizeLine_eq]; omega))
    have sb : Heap.SameBut a s.heap (s.heap.update a (Obj.putSet es1 t1)) := Heap.SameBut.update ..
    have ho1 := store_at (es' := es1) (t' := t1) ho hd
    generalize s.heap.update a (Obj.putSet es1 t1) = h1 at sb ho1 ⊢
    have all1 : ∀ p ∈ L1, N.at_ h1 p.2 p.1 := fun p hp => by
      rcases List.mem_cons.mp (pm.mem_iff.mp hp) with rfl | hp
      · exact N.stays hx ho hd sb
      · exact N.stays (R.all p hp) ho hd sb
    have ld1 : w.params.followText "set-order" = true ∨ t1.led = true := by rw [q5]; exact R.ld
    have full : t1.tooFull = true ↔ (L.length + 1) * 5 ≥ t.mask * 3 := by
      unfold SetTable.tooFull
      rw [decide_eq_true_eq, q9, List.length_map, q4]
    by_cases hf : t1.tooFull = true
    · first
        | (refine wpAny_bind ?_; refine wp_if_pos (by simp [hf]) ?_)
        | (refine wp_if_pos (by simp [hf]) ?_; refine wpAny_bind ?_)
      have hf := full.mp hf
      have sz1 : t1.place.size = es1.size := by
        have := q3.sz
        rw [List.length_map, l1] at this
        rw [this, z1]
      have two : (t.mask = 7 ∧ L.length = 4) ∨ (t.mask = 31 ∧ L.length = 18) := by
        rcases R.tab.mok with e | e | e <;> rw [e] at hf rm <;> omega
      rw [ln]
      have grow : ∀ M, SetTable.sizeAbove (SetTable.grown (L.length + 1)) - 1 = M → MaskOk M → SetTable.sizeAbove (SetTable.grown (L.length + 1)) ≤ 128 → (L.length + 1) * 5 < M * 3 →
          wpAny (model P w) A (setRelay a (SetTable.grown (L.length + 1))) (fun _ s' => wpAny (model P w) A (pure true) Q E s') E { s with heap := h1 } := fun M g1 g2 g3 g4 =>
        relay (s := { s with heap := h1 }) ho1 ⟨hex.1, hex.2.1, hex.2.2⟩ rfl he sz1 q3.dm (by rw [z1, q4]; rcases two with ⟨_, _⟩ | ⟨_, _⟩ <;> omega) once1 all1 ld1 (by omega) g1 g2 g3 (by rw [l1]; exact g4)
          fun h2 L2 es2 ep2 t2 sb2 R2 pm2 => wpAny_pure (q true h2 L2 es2 ep2 t2 (sb.trans sb2) R2 (fun z => absurd z hm) fun _ => pm2.trans pm)
      rcases two with ⟨_, e⟩ | ⟨_, e⟩
      · exact grow 31 (by rw [e, size_20]) (.inr (.inl rfl)) (by rw [e, size_20]; decide) (by omega)
      · exact grow 127 (by rw [e, size_76]) (.inr (.inr rfl)) (by rw [e, size_76]; decide) (by omega)
    · first
        | refine wp_if_neg (by simp [hf]) ?_
        | (refine wpAny_bind ?_; refine wp_if_neg (by simp [hf]) ?_; refine wpAny_pure ?_)
      have hf : ¬ (L.length + 1) * 5 ≥ t.mask * 3 := fun z => hf (full.mpr z)
      exact wpAny_pure (q true h1 L1 es1 (ep + 1) t1 sb ⟨⟨_, ho1, ⟨hex.1, hex.2.1, hex.2.2⟩, rfl⟩, he, q3, once1, all1, ld1, by rw [l1, q4]; omega, by omega⟩ (fun z => absurd z hm) fun _ => pm)
theorem fresh_set {h : Heap} (ho : h.get? a = some { cls := .type "set", dict := none, data := .set #[] 0 (.fresh 0 0 (!w.params.followText "set-order")) }) : KSet N h a [] #[] 0 (.fresh 0 0 (!w.params.followText "set-order")) := by
  refine ⟨⟨_, ho, ⟨rfl, rfl, rfl⟩, rfl⟩, rfl, ⟨?_, rfl, rfl, .inl rfl, fun x h => ?_, fun i h j e => ?_⟩, List.nodup_nil, fun p h => ?_, ?_, by show 0 * 5 < 7 * 3; decide, by show 0 < 64; decide⟩
  · exact .nil
  · cases h
  · cases e
  · cases h
  · cases w.params.followText "set-order"
    · exact .inr rfl
    · exact .inl rfl
end
/-! ### tuples of ints and texts -/
section
variable {P : Program} {w : World}
theorem items_plain {ks : List Key} {vs : List Value} (h : ItemsAre (mixKind P w) ks vs) : ∀ v ∈ vs, (∃ i t, v = Value.int i t) ∨ ∃ x t, v = Value.str x t := by
  induction h with
  | nil => intro v hv; cases hv
  | cons h1 _ ih =>
    intro v hv
    rcases List.mem_cons.mp hv with rfl | hv
    · rcases keyIs_shape h1 with ⟨i, t, _, e⟩ | ⟨x, t, _, e⟩
      · exact .inl ⟨i, t, e⟩
      · exact .inr ⟨x, t, e⟩
    · exact ih v hv
theorem plain_cls {v : Value} (h : (∃ i t, v = Value.int i t) ∨ ∃ x t, v = Value.str x t) (n : Nat) : ofAClassStatement n v = pure false := by
  rcases h with ⟨i, t, rfl⟩ | ⟨x, t, rfl⟩ <;> cases n <;> rfl
theorem plain_hash {v : Value} (h : (∃ i t, v = Value.int i t) ∨ ∃ x t, v = Value.str x t) (n : Nat) : ∃ r, hashByValue n v = pure r := by
  rcases h with ⟨i, t, rfl⟩ | ⟨x, t, rfl⟩
  · exact ⟨_, hashByValue_scannable n rfl⟩
  · exact ⟨_, hashByValue_scannable n rfl⟩
theorem tup_cls {A : Around} {E : Value → Shared → Prop} {s : Shared} {k : List Key} {b : Addr} {Q : Bool → Shared → Prop} (hk : IsTupleKey (mixKind P w) s.heap k b) (q : Q false s) : wpAny (model P w) A (ofAClassStatement 8 (.ref b)) Q E s := by
  have ty := hk.typeIs
  obtain ⟨o, its, n, ho, _, hd, hi⟩ := hk
  unfold ofAClassStatement
  refine wpAny_bind (wpAny_typeOf ty ?_)
  dsimp only
  simp only [show (("tuple" : String) == "tuple") = true by decide, if_true, Bool.not_true, Bool.false_eq_true, if_false]
  try refine wpAny_bind (wpAny_pure ?_)
  try simp only [Bool.not_true, Bool.false_eq_true, if_false]
  show wpAny _ _ (seqItems? (.ref b) >>= _) _ _ s
  refine wpAny_bind (wpAny_seqItems ho hd ?_)
  dsimp only
  refine wpAny_bind ?_
  show wpAny _ _ (forIn its _ _) _ _ s
  rw [← Array.forIn_toList]
  refine wpAny_forIn_list _ (fun rest r s' => r.1 = none ∧ s' = s ∧ ∀ v ∈ rest, (∃ i t, v = Value.int i t) ∨ ∃ x t, v = Value.str x t) _ ?_ ?_ _ _ ⟨rfl, rfl, items_plain hi⟩
  · rintro v rest r s' ⟨_, rfl, al⟩
    rw [plain_cls (al v List.mem_cons_self)]
    refine wpAny_bind (wpAny_pure ?_)
    simp only [Bool.false_eq_true, if_false]
    exact wpAny_pure ⟨rfl, rfl, fun u hu => al u (List.mem_cons_of_mem _ hu)⟩
  · rintro ⟨r1, r2⟩ s' ⟨hr, rfl, _⟩
    simp only at hr
    subst hr
    exact wpAny_pure q
theorem tup_byVal {A : Around} {E : Value → Shared → Prop} {s : Shared} {k : List Key} {b : Addr} {Q : Bool → Shared → Prop} (hk : IsTupleKey (mixKind P w) s.heap k b) (q : ∀ r, Q r s) : wpAny (model P w) A (hashByValue 8 (.ref b)) Q E s := by
  have ty := hk.typeIs
  obtain ⟨o, its, n, ho, _, hd, hi⟩ := hk
  unfold hashByValue
  refine wpAny_bind (wpAny_specialOf ty F.slot_tuple_hash.lookup ?_)
  show wpAny _ _ (seqItems? (.ref b) >>= _) _ _ s
  refine wpAny_bind (wpAny_seqItems ho hd ?_)
  refine wpAny_bind ?_
  show wpAny _ _ (forIn its _ _) _ _ s
  rw [← Array.forIn_toList]
  refine wpAny_forIn_list _ (fun rest r s' => s' = s ∧ ∀ v ∈ rest, (∃ i t, v = Value.int i t) ∨ ∃ x t, v = Value.str x t) _ ?_ ?_ _ _ ⟨rfl, items_plain hi⟩
  · rintro v rest r s' ⟨rfl, al⟩
    obtain ⟨c, e⟩ := plain_hash (al v List.mem_cons_self) 7
    rw [e]
    refine wpAny_bind (wpAny_pure ?_)
    cases c
    · simp only [Bool.not_false, if_true]
      exact wpAny_pure (wpAny_pure (q false))
    · simp only [Bool.not_true, Bool.false_eq_true, if_false]
      exact wpAny_pure ⟨rfl, fun u hu => al u (List.mem_cons_of_mem _ hu)⟩
  · rintro ⟨r1, r2⟩ s' ⟨rfl, _⟩
    cases r1
    · exact wpAny_pure (q _)
    · exact wpAny_pure (q _)
theorem tup_unseen {A : Around} {E : Value → Shared → Prop} {s : Shared} {k : List Key} {b : Addr} {ys : List Value} {Q : Bool → Shared → Prop} (hk : IsTupleKey (mixKind P w) s.heap k b) (hy : ∀ y ∈ ys, ∃ l c, y = Value.ref c ∧ IsTupleKey (mixKind P w) s.heap l c) (q : Q false s) :
    wpAny (model P w) A (searchCouldBeSeen (.ref b) ys) Q E s := by
  unfold searchCouldBeSeen
  refine wpAny_bind (wpAny_forIn_list _ (fun rest r s' => r.1 = none ∧ s' = s ∧ ∀ y ∈ rest, ∃ l c, y = Value.ref c ∧ IsTupleKey (mixKind P w) s.heap l c) _ ?_ ?_ _ _ ⟨rfl, rfl, hy⟩)
  · rintro v rest r s' ⟨_, rfl, al⟩
    obtain ⟨l, c, rfl, hc⟩ := al v List.mem_cons_self
    have more : ∀ y ∈ rest, ∃ l c, y = Value.ref c ∧ IsTupleKey (mixKind P w) s'.heap l c := fun u hu => al u (List.mem_cons_of_mem _ hu)
    dsimp only
    by_cases hv : (b == c || (carriedByValue (.ref b) && carriedByValue (.ref c))) = true
    · exact wp_if_pos hv (wpAny_pure ⟨rfl, rfl, more⟩)
    · refine wp_if_neg hv (wpAny_bind (wpAny_eqIsQuiet_tuple hk ?_))
      simp only [Bool.not_true, Bool.false_eq_true, if_false]
      refine wpAny_bind (wpAny_eqIsQuiet_tuple hc ?_)
      simp only [Bool.not_true, Bool.false_eq_true, if_false]
      refine wpAny_bind (tup_cls hk ?_)
      simp only [Bool.false_eq_true, if_false]
      refine wpAny_bind (tup_cls hc ?_)
      simp only [Bool.false_eq_true, if_false]
      exact wpAny_pure ⟨rfl, rfl, more⟩
  · rintro ⟨r1, r2⟩ s' ⟨hr, rfl, _⟩
    simp only at hr
    subst hr
    exact wpAny_pure q
/-- tuples of ints and texts are known by what they hold -/
def mixT (P : Program) (w : World) : Known P w (List Key) where
  at_ := fun h k b => IsTupleKey (mixKind P w) h k b
  hf := tupleKeyHash (mixKind P w)
  eq_ := fun hu hb hc q => wpAny_eqBool_tuple hu hb hc q
  unseen := fun hb hy q => tup_unseen hb hy q
  byVal := fun hb q => tup_byVal hb q
  stays := fun {h h' k a b o es ep t} hb ho hd sb => by
    obtain ⟨o', its, n, e, c, d, i⟩ := hb
    have ne : b ≠ a := by
      rintro rfl
      rw [ho] at e
      cases e
      rw [hd] at d
      cases d
    exact ⟨o', its, n, (sb.2 b ne).trans e, c, d, i⟩
  keeps := fun {h h' k b} hb hk => by
    obtain ⟨o', its, n, e, c, d, i⟩ := hb
    exact ⟨o', its, n, hk b o' e, c, d, i⟩
end
end Fb

/-! Part S2: set comprehensions of tuples of ints and texts, and how many a set has. -/
namespace Fb
open PySem PySem.Spec PyProof.Rows L2
abbrev Keyed := List (Addr × List Key)
/-- what the set's object tells by itself -/
def MSet (P : Program) (w : World) (h : Heap) (a : Addr) (L : Keyed) : Prop := ∃ es ep t, (∃ o, h.get? a = some o ∧ o.ExactSet ∧ o.data = .set es ep t) ∧ es.toList = entries (mixT P w) L ∧ TabOk t (L.map fun p => (mixT P w).hf p.2) ∧ (L.map (·.2)).Nodup ∧
  (w.params.followText "set-order" = true ∨ t.led = true) ∧ L.length * 5 < t.mask * 3 ∧ L.length < 64
def MSetO (P : Program) (w : World) (a : Addr) (L : Keyed) : HO := .ext fun h => MSet P w h a L
theorem KSet.bare {P : Program} {w : World} {h : Heap} {a : Addr} {L : Keyed} {es : Array (Int × Value)} {ep : Nat} {t : SetTable} (R : KSet (mixT P w) h a L es ep t) : MSet P w h a L := ⟨es, ep, t, R.obj, R.ents, R.tab, R.once, R.ld, R.room, R.few⟩
theorem MSet.with {P : Program} {w : World} {h : Heap} {a : Addr} {L : Keyed} (R : MSet P w h a L) (al : ∀ p ∈ L, (mixT P w).at_ h p.2 p.1) : ∃ es ep t, KSet (mixT P w) h a L es ep t := by
  obtain ⟨es, ep, t, r1, r2, r3, r4, r5, r6, r7⟩ := R
  exact ⟨es, ep, t, r1, r2, r3, r4, al, r5, r6, r7⟩
theorem MSet.ok {P : Program} {w : World} {H : Hp} {h : Heap} {a : Addr} {L : Keyed} (R : MSet P w h a L) : ObjOk P w H h a (MSetO P w a L) := by
  have ⟨_, _, _, ⟨o, ho, _⟩, _⟩ := R
  refine ⟨R, ⟨o, ho⟩, fun h1 h2 p k => ?_⟩
  obtain ⟨es, ep, t, ⟨o', ho', r⟩, q⟩ := (show MSet P w h1 a L from p)
  exact ⟨es, ep, t, ⟨o', k o' ho', r⟩, q⟩
theorem keys_of {P : Program} {w : World} : ∀ {ks : List Key} {us : List Value}, Vals (ks.map kV) us → ItemsAre (mixKind P w) ks us
  | [], _, .nil => .nil
  | .inl i :: ks, _, .cons r q => by
    obtain ⟨t, rfl⟩ := r
    exact .cons (by show Value.isInt i (Value.int i t) = true; simp [Value.isInt]) (keys_of q)
  | .inr x :: ks, _, .cons r q => by
    obtain ⟨t, rfl⟩ := r
    exact .cons (by show Value.isStrOf x (Value.str x t) = true; simp [Value.isStrOf]) (keys_of q)
section
variable {X : Cx} {pins : List (Addr × Obj)} {σ : L2.St} {H : Hp} {s : Shared}
theorem mix_at (I : Inv X pins σ H s) {b : Addr} {k : List Key} (h : H b = some (.tup (k.map kV))) : (mixT X.prog X.w).at_ s.heap k b := by
  obtain ⟨_, its, r, o, ho, hc, n, hd⟩ := (show ObjOk X.prog X.w H s.heap b (.tup (k.map kV)) from I.hok b _ h)
  exact ⟨o, its.toArray, n, ho, hc, hd, by simpa using keys_of r⟩
/-- set.add -/
theorem add_mix {A : Around} {E : Value → Shared → Prop} {D b : Addr} {L : Keyed} {k : List Key} {Q : Value → Shared → Prop} (hA : A.units + 1 < cLine) (I : Inv X pins σ H s) (hD : H D = some (MSetO X.prog X.w D L)) (hb : H b = some (.tup (k.map kV))) (al : ∀ p ∈ L, H p.1 = some (.tup (p.2.map kV))) (few : L.length + 1 < 64)
    (q : ∀ s' L', (k ∈ L.map (·.2) → L' = L) → (k ∉ L.map (·.2) → L'.Perm ((b, k) :: L)) → Inv X pins σ (upd H D (MSetO X.prog X.w D L')) s' → Q .none s') : wpAny (model X.prog X.w) A (call (.builtin "set.add") [.ref D, .ref b]) Q E s := by
  obtain ⟨es, ep, t, R⟩ := MSet.with (I.hok D _ hD).1 fun p hp => mix_at I (al p hp)
  have kb := mix_at I hb
  obtain ⟨o, ho, hex, hd⟩ := R.obj
  have ty : s.TypeIs (.ref D) "set" := ⟨o, ho, hex.1⟩
  refine wpAny_call_entry F.slot_set_add ty F.entry_set_add ?_ (F.args_set_add_2 _ _)
  unfold Builtin.«set.add» Builtin.Frozenset.oneOther
  simp only [List.isEmpty_nil, bind_assoc]
  unfold Builtin.Frozenset.addrOf setAdd
  refine wpAny_bind (wpAny_pure ?_)
  try dsimp only
  refine wpAny_bind (wpAny_pure ?_)
  try dsimp only
  refine wpAny_bind (wpAny_holding ?_)
  refine wpAny_bind (wpAny_pyHash_tuple (by show A.in1.units < cLine; exact hA) kb ?_)
  refine add_key (N := mixT X.prog X.w) (s := { s with toks := s.toks + (k.length + 1) }) R kb (by show A.in1.units < cLine; exact hA) few fun r h' L' es' ep' t' sb R' y n => ?_
  show wpAny _ _ (ret Value.none) _ _ _
  refine wpAny_pure ⟨_, rfl, q _ L' y n ?_⟩
  have he : ∃ u, h'.get? D = some u := by
    obtain ⟨o', ho', _⟩ := R'.obj
    exact ⟨o', ho'⟩
  exact I.write (e := D) (t' := s.toks + (k.length + 1)) (by rw [hD]; trivial) (.inl rfl) (fun c u hc hu => (sb.2 c hc).trans hu) he R'.bare.ok
end
section
variable {X : Cx}
/-- {elt for target in iter if ..}, elt a tuple of ints and texts -/
def tScM (P : Program) (w : World) (wi : TI) (g : TG) (tt : TT) (te : TE) (vs : List Nat) : TE := fun σ H Q => wi σ H fun J H1 => ∀ D, H1 D = none → ∃ W : Nat → Nat → Hp → Prop, (∃ m, W 0 m (upd H1 D (MSetO P w D []))) ∧ ∀ i m H, W i m H →
  (J.stop i H ∧ Q (.ref D) H) ∨ (J.go i H ∧ ∃ Nx : Hp → Prop, (∀ H', Nx H' → ∃ m', m' < m ∧ W (i + 1) m' H') ∧ ∀ x H', J.yld i H x H' → g x (wipe σ vs) H' fun σ2 H2 => wipe σ2 vs = wipe σ vs ∧ tt σ2 H2 fun b H3 =>
    if b = true then te σ2 H3 fun y H4 => ∃ (c : Addr) (k : List Key) (L : Keyed), y = .ref c ∧ H4 c = some (.tup (k.map kV)) ∧ H4 D = some (MSetO P w D L) ∧ (∀ p ∈ L, H4 p.1 = some (.tup (p.2.map kV))) ∧ L.length + 1 < 64 ∧
      ∀ L', (k ∈ L.map (·.2) → L' = L) → (k ∉ L.map (·.2) → L'.Perm ((c, k) :: L)) → Nx (upd H4 D (MSetO P w D L')) else Nx H3)
theorem mset_new {P : Program} {w : World} {H : Hp} {h : Heap} : ObjOk P w H (h.push { cls := .type "set", dict := none, data := .set #[] 0 (.fresh 0 0 (!w.params.followText "set-order")) }) h.objs.size (MSetO P w h.objs.size []) :=
  (fresh_set (N := mixT P w) (Heap.get?_push_size _ rfl)).bare.ok
theorem pe_scM {elt tg iter : Expr} {ifs : List Expr} {scope : Scope} {own : List (Str × Nat)} {pos : Pos} {wi : TI} {g : TG} {tt : TT} {te : TE} (hu : X.A.units + 1 < cLine) (hc : X.calm = true) (hN : X.N.Nodup) (hi : PI X tg iter wi) (ok : BlkOk X.N X.env.scope scope own)
    (hg : ∀ (s : Shared) (H : Hp) (C : Addr) (cl : List (Str × Addr)) (fp : List Addr), PG (X.blk s H scope (compEnvC scope cl C X.env) fp) tg g)
    (ht : ∀ (s : Shared) (H : Hp) (C : Addr) (cl : List (Str × Addr)) (fp : List Addr), PTs (X.blk s H scope (compEnvC scope cl C X.env) fp) ifs tt)
    (he : ∀ (s : Shared) (H : Hp) (C : Addr) (cl : List (Str × Addr)) (fp : List Addr), PE (X.blk s H scope (compEnvC scope cl C X.env) fp) elt te)
    (hs : ∀ x, foldedSetIterable iter X.env x = pure x := by intro _; rfl) : PE X (.SetComp elt [⟨tg, iter, ifs, 0⟩] scope pos) (tScM X.prog X.w wi g tt te (own.map (·.2))) := by
  refine ⟨fun pins s σ H Q I h => ?_⟩
  rw [PpSet.eval_SetComp]
  have free : ∀ y ∈ scope.names, y.2 = .free → ∃ c, X.env.cells.lookup y.1 = some c := fun y hy e => (ok.free y hy e).elim (fun k => I.ok.has _ (.inl k)) fun k => I.ok.has _ (.inr k)
  refine wpAny_comprehension_free (use := none) rfl hs (closure_ok free) ok.kind (fun y hy e => by rw [ok.uniq y hy, e]) (thn (hi.run pins s σ H _ I h) fun xv s1 hx => thn hx fun itv s2 h2 => ?_)
  obtain ⟨it, fp, tn, J, H2, rfl, I2, T, st2, f2, q⟩ := h2
  refine PpSet.newSet_ok (newEnv_comp ?_)
  have nD : H2 s2.heap.objs.size = none := I2.hok.fresh (Nat.le_refl _)
  obtain ⟨W, ⟨m0, w0⟩, turn⟩ := q _ nD
  have I3 : Inv X pins σ (upd H2 s2.heap.objs.size (MSetO X.prog X.w s2.heap.objs.size [])) { s2 with heap := s2.heap.push { cls := .type "set", dict := none, data := .set #[] 0 (.fresh 0 0 (!X.w.params.followText "set-order")) } } :=
    I2.laid (t' := s2.toks) (fun b o e => Heap.get?_push_of_some _ e) (Nat.le_refl _) mset_new
  have small : ∀ b ∈ fp, b < s2.heap.objs.size := fun b hb => (T.obj _ _ st2 b hb).elim fun o e => Heap.lt_size e.1
  have size3 : (s2.heap.push { cls := .type "set", dict := none, data := .set #[] 0 (.fresh 0 0 (!X.w.params.followText "set-order")) }).objs.size = s2.heap.objs.size + 1 := Heap.size_push ..
  have st3 : tn 0 (s2.heap.push { cls := .type "set", dict := none, data := .set #[] 0 (.fresh 0 0 (!X.w.params.followText "set-order")) }) := T.keep _ _ _ st2 fun b _ o e => Heap.get?_push_of_some _ e
  generalize hD : s2.heap.objs.size = D at *
  generalize hs3 : ({ s2 with heap := s2.heap.push { cls := .type "set", dict := none, data := .set #[] 0 (.fresh 0 0 (!X.w.params.followText "set-order")) } } : Shared) = s3 at *
  have h3 : s3.heap = s2.heap.push { cls := .type "set", dict := none, data := .set #[] 0 (.fresh 0 0 (!X.w.params.followText "set-order")) } := by rw [← hs3]
  have f3 : ∀ b ∈ fp, FpOk X pins (upd H2 D (MSetO X.prog X.w D [])) b ∧ b < s3.heap.objs.size := fun b hb => by
    have l := small b hb
    refine ⟨⟨?_, (f2 b hb).2⟩, by rw [h3, size3]; exact Nat.lt_succ_of_lt l⟩
    rw [upd_ne (Nat.ne_of_lt l)]
    exact (f2 b hb).1
  have I4 := block_start I3 ok hN f3
  have n0 : ∀ b ∈ fp, (upd H2 D (MSetO X.prog X.w D [])) b = none := fun b hb => (f3 b hb).1.1
  generalize hH3 : upd H2 D (MSetO X.prog X.w D []) = H3 at *
  have pg := hg s3 H3 s3.heap.objs.size (cellsFrom (s3.heap.objs.size + 1) scope.names (cloFrom X.env.cells scope.names [])) fp
  have pt := ht s3 H3 s3.heap.objs.size (cellsFrom (s3.heap.objs.size + 1) scope.names (cloFrom X.env.cells scope.names [])) fp
  have pe := he s3 H3 s3.heap.objs.size (cellsFrom (s3.heap.objs.size + 1) scope.names (cloFrom X.env.cells scope.names [])) fp
  have top : (compEnvC scope (cellsFrom (s3.heap.objs.size + 1) scope.names (cloFrom X.env.cells scope.names [])) s3.heap.objs.size X.env).locals = s3.heap.objs.size := rfl
  show codeAny _ _ (.compStart (.SetComp elt [⟨tg, iter, ifs, 0⟩] scope pos) 0 (.ref it) (.ref D) (compEnvC scope (cellsFrom (s3.heap.objs.size + 1) scope.names (cloFrom X.env.cells scope.names [])) s3.heap.objs.size X.env)) _ { s3 with heap := pushCells (s3.heap.push { cls := .type "dict", data := .dict #[] }) scope.names }
  generalize compEnvC scope (cellsFrom (s3.heap.objs.size + 1) scope.names (cloFrom X.env.cells scope.names [])) s3.heap.objs.size X.env = ce at I4 pg pt pe top ⊢
  have st4 : tn 0 ({ s3 with heap := pushCells (s3.heap.push { cls := .type "dict", data := .dict #[] }) scope.names } : Shared).heap := T.keep _ _ _ (h3 ▸ st3) fun b _ o e => pushCells_keeps _ _ _ _ (Heap.get?_push_of_some _ e)
  generalize ({ s3 with heap := pushCells (s3.heap.push { cls := .type "dict", data := .dict #[] }) scope.names } : Shared) = s4 at I4 st4 ⊢
  have fps : ∀ {σ' : L2.St} {H' : Hp} {s' : Shared}, Inv (X.blk s3 H3 scope ce fp) [] σ' H' s' → (∀ b ∈ fp, H' b = none) → ∀ b ∈ fp, FpOk (X.blk s3 H3 scope ce fp) [] H' b := fun {σ' H' s'} I' hn b hb =>
    ⟨hn b hb, (I'.ok.exf b hb).1, I'.ok.exfs b hb, .inl hb, fun x c e => (I'.ok.exf b hb).2 x c e, fun p hp => absurd (show p ∈ ([] : List (Addr × Obj)) ++ [] from hp) (by simp)⟩
  have loop : codeAny (model X.prog X.w) X.A (.compLoop (.SetComp elt [⟨tg, iter, ifs, 0⟩] scope pos) 0 (.ref it) (.ref D) ce) (compPost (model X.prog X.w) X.A X.xe none (EP X pins σ Q) (.ref D) s3.heap.objs.size) s4 := by
    refine PpSet.compLoopS_any (fun n s' => ∃ i H', Inv (X.blk s3 H3 scope ce fp) [] (wipe σ (own.map (·.2))) H' s' ∧ tn i s'.heap ∧ (∀ b ∈ fp, H' b = none) ∧ W i n H') ?_ m0 ⟨0, H3, I4, st4, n0, w0⟩
    rintro n s5 ⟨i, H5, I5, st5, n5, w5⟩
    rcases turn i n H5 w5 with ⟨stop, fin⟩ | ⟨go, Nx, next, step⟩
    · refine thnF (T.done (X.blk s3 H3 scope ce fp) rfl rfl rfl hc i [] s5 _ H5 (fun _ _ => False) I5 (fps I5 n5) st5 stop) fun r s6 ⟨hr, I6⟩ => ?_
      subst hr
      have I7 : Inv X pins σ H5 s6 := I3.call' (ch := fp) I6.os I6.base I6.hok I6.bare fun b hb => let f := (f3 b hb).1; ⟨f.2.2.2.1, f.2.1, f.2.2.2.2.1, f.2.2.2.2.2⟩
      have nC : H5 s3.heap.objs.size = none := by
        have := (show H5 ce.locals = none from I6.free)
        rwa [top] at this
      obtain ⟨m, hn, _⟩ := I6.loc
      have hn : s6.heap.Ns s3.heap.objs.size m := by
        have := (show s6.heap.Ns ce.locals m from hn)
        rwa [top] at this
      obtain ⟨g0, g1, g2, g3, g4, g5⟩ := I3.fpOk (Nat.le_refl _) nC
      exact ⟨m, hn, fun h'' sb => ⟨.ref D, H5, I7.turned (t' := s6.toks) (fun b o hb e => (sb.2 b hb).trans e) g0 g1 g3 g4 g5, rfl, fin⟩⟩
    · refine thnF (T.item (X.blk s3 H3 scope ce fp) rfl rfl rfl hc i [] s5 _ H5 (fun _ _ => False) I5 (fps I5 n5) st5 go) fun r s6 ⟨u, hr, h6⟩ => ?_
      subst hr
      refine thnF h6 fun _ s7 ⟨x, H7, I7, r7, y7, st7, n7⟩ => ?_
      refine thnF (pg.run _ s7 _ H7 x u _ (I7.pinned (fps I7 n7) (T.obj _ _ st7)) r7 (step x H7 y7)) fun _ s8 ⟨σ8, H8, I8, hw8, q8⟩ => ?_
      refine thnF (pt.run _ s8 σ8 H8 _ I8 q8) fun b s9 ⟨H9, I9, q9⟩ => ?_
      have on : ∀ {s' : Shared} {H' : Hp}, Inv (X.blk s3 H3 scope ce fp) ([] ++ pinsAt fp s7.heap) σ8 H' s' → Nx H' → ∃ m, m < n ∧ ∃ i H', Inv (X.blk s3 H3 scope ce fp) [] (wipe σ (own.map (·.2))) H' s' ∧ tn i s'.heap ∧ (∀ b ∈ fp, H' b = none) ∧ W i m H' := fun {s' H'} I' nx => by
        obtain ⟨m', hm, w'⟩ := next H' nx
        have pin : ∀ b ∈ fp, ∀ o, s7.heap.get? b = some o → s'.heap.get? b = some o ∧ H' b = none := fun b hb o e =>
          let z := I'.pin (b, o) (List.mem_append_right _ (List.mem_append_right _ (mem_pinsAt hb e)))
          ⟨z.1, z.2.1⟩
        refine ⟨m', hm, i + 1, H', (I'.unpinned (pins := [])).weak (by rw [← hw8, wipe_length]) (fun j v e => ?_), T.keep _ _ _ st7 fun b hb o e => (pin b hb o e).1, fun b hb => ?_, w'⟩
        · rw [← hw8] at e
          exact (wipe_some e).1
        · obtain ⟨o, e, _⟩ := T.obj _ _ st7 b hb
          exact (pin b hb o e).2
      cases b with
      | false =>
        simp only [Bool.false_eq_true, if_false] at q9 ⊢
        exact on I9 q9
      | true =>
        simp only [if_true] at q9 ⊢
        refine thnF (pe.run _ s9 σ8 H9 _ I9 q9) fun z s10 ⟨yv, H10, I10, r10, c, k, L, ey, ec, eD, al, few, nx⟩ => ?_
        subst ey
        cases r10
        exact add_mix (X := X.blk s3 H3 scope ce fp) hu I10 eD ec al few fun s11 L' y' n' I11 => on I11 (nx L' y' n')
  exact PpSet.codeAny_compStart_set loop (T.self X.A 0 _ _ _ st4 loop)
/-- how many it has -/
theorem call_lenM : CallR X (.builtin "len") (fun xs H Q => ∃ (a : Addr) (L : Keyed), xs = [.ref a] ∧ H a = some (MSetO X.prog X.w a L) ∧ Q (.int L.length) H) := by
  intro pins s σ H xs us Q I r h
  obtain ⟨a, L, rfl, ha, q⟩ := h
  obtain ⟨u, rfl, ru⟩ := vals1 r
  cases ru
  obtain ⟨es, ep, t, ⟨o, ho, hex, hd⟩, he, T, _, _, room, few⟩ := (I.hok a _ ha).1
  have ln := entries_len he
  have sz := T.sz
  rw [List.length_map] at sz
  refine call_len_set ho hex hd (fits_by (by omega) T.dm (by omega)) (by omega) ?_
  refine ⟨.int L.length, H, I.kept (t' := s.toks + 1 + 1) fun _ _ e => e, ⟨s.toks + 1, ?_⟩, q⟩
  rw [ln]
end
end Fb

/-! Part S3: sorted of steps: tuples of a room, a sign and a tuple, no two of the same room and sign. -/
namespace Fb
open PySem PySem.Spec PyProof.Rows L2
/-! ### the order -/
abbrev RS := Int × Str
def rsLt (a b : RS) : Bool := decide (a.1 < b.1) || (decide (a.1 = b.1) && decide (a.2.cps.toList < b.2.cps.toList))
theorem rsLt_iff {a b : RS} : rsLt a b = true ↔ a.1 < b.1 ∨ (a.1 = b.1 ∧ a.2.cps.toList < b.2.cps.toList) := by
  simp [rsLt]
theorem rsLt_irr (a : RS) : rsLt a a = false := by
  cases h : rsLt a a with
  | false => rfl
  | true =>
    rcases rsLt_iff.mp h with h | ⟨_, h⟩
    · omega
    · exact absurd h (List.lt_irrefl _)
theorem rsLt_trans {a b c : RS} (h1 : rsLt a b = true) (h2 : rsLt b c = true) : rsLt a c = true := by
  rcases rsLt_iff.mp h1 with h1 | ⟨e1, h1⟩ <;> rcases rsLt_iff.mp h2 with h2 | ⟨e2, h2⟩ <;> refine rsLt_iff.mpr ?_
  · left; omega
  · left; omega
  · left; omega
  · right; exact ⟨by omega, List.lt_trans h1 h2⟩
theorem str_ext {x y : Str} (h : x.cps.toList = y.cps.toList) : x = y := by
  cases x
  cases y
  congr 1
  exact Array.ext' h
theorem rsLt_total {a b : RS} (h1 : rsLt a b = false) (h2 : rsLt b a = false) : a = b := by
  have n1 : ¬ (a.1 < b.1 ∨ (a.1 = b.1 ∧ a.2.cps.toList < b.2.cps.toList)) := fun h => by rw [rsLt_iff.mpr h] at h1; cases h1
  have n2 : ¬ (b.1 < a.1 ∨ (b.1 = a.1 ∧ b.2.cps.toList < a.2.cps.toList)) := fun h => by rw [rsLt_iff.mpr h] at h2; cases h2
  have e1 : a.1 = b.1 := by
    have : ¬ a.1 < b.1 := fun h => n1 (.inl h)
    have : ¬ b.1 < a.1 := fun h => n2 (.inl h)
    omega
  have l1 : ¬ a.2.cps.toList < b.2.cps.toList := fun h => n1 (.inr ⟨e1, h⟩)
  have l2 : ¬ b.2.cps.toList < a.2.cps.toList := fun h => n2 (.inr ⟨e1.symm, h⟩)
  have e2 : a.2 = b.2 := str_ext (List.le_antisymm (List.not_lt.mp l2) (List.not_lt.mp l1))
  exact Prod.ext e1 e2
/-- how many of l stand before k -/
def rk (l : List RS) (k : RS) : Int := (l.countP fun x => rsLt x k : Nat)
theorem countP_le {α : Type} {p q : α → Bool} : ∀ {l : List α}, (∀ x ∈ l, p x = true → q x = true) → l.countP p ≤ l.countP q
  | [], _ => Nat.le_refl _
  | x :: l, h => by
    have ih := countP_le (p := p) (q := q) (l := l) fun y hy => h y (List.mem_cons_of_mem _ hy)
    have hx := h x List.mem_cons_self
    rw [List.countP_cons, List.countP_cons]
    cases e : p x
    · simp only [Bool.false_eq_true, if_false]
      omega
    · rw [hx e]
      omega
theorem countP_lt {α : Type} {p q : α → Bool} : ∀ {l : List α}, (∀ x ∈ l, p x = true → q x = true) → (∃ x ∈ l, p x = false ∧ q x = true) → l.countP p < l.countP q
  | [], _, h => by simp at h
  | x :: l, h, ⟨y, hy, py, qy⟩ => by
    have le := countP_le (p := p) (q := q) (l := l) fun y hy => h y (List.mem_cons_of_mem _ hy)
    have hx := h x List.mem_cons_self
    rw [List.countP_cons, List.countP_cons]
    rcases List.mem_cons.mp hy with rfl | hy
    · rw [py, qy]
      simp only [Bool.false_eq_true, if_false, if_true]
      omega
    · have lt := countP_lt (p := p) (q := q) (l := l) (fun y hy => h y (List.mem_cons_of_mem _ hy)) ⟨y, hy, py, qy⟩
      cases e : p x
      · simp only [Bool.false_eq_true, if_false]
        omega
      · rw [hx e]
        omega
theorem rk_lt {l : List RS} {a b : RS} (ha : a ∈ l) (hb : b ∈ l) : decide (rk l a < rk l b) = rsLt a b := by
  cases h : rsLt a b with
  | true =>
    refine decide_eq_true ?_
    have := countP_lt (p := fun x => rsLt x a) (q := fun x => rsLt x b) (l := l) (fun x _ hx => rsLt_trans hx h) ⟨a, ha, rsLt_irr a, h⟩
    unfold rk
    omega
  | false =>
    refine decide_eq_false ?_
    have : (l.countP fun x => rsLt x b) ≤ l.countP fun x => rsLt x a := by
      cases h2 : rsLt b a with
      | true => exact countP_le fun x _ hx => rsLt_trans hx h2
      | false => rw [rsLt_total h h2]; exact Nat.le_refl _
    unfold rk
    omega
/-! ### steps in the model's heap -/
section
variable {P : Program} {w : World}
/-- v is a tuple of the room and the sign of k, and a tuple -/
def StepIn (P : Program) (w : World) (h : Heap) (v : Value) (k : RS) : Prop :=
  ∃ (t wa : Addr) (o : Obj) (n : Nat) (t1 t2 : Tok) (ks : List Key), v = .ref t ∧ h.get? t = some o ∧ o.cls = .type "tuple" ∧ o.data = .seq #[.int k.1 t1, .str k.2 t2, .ref wa] n ∧ IsTupleKey (mixKind P w) h ks wa
theorem StepIn.keeps {h h' : Heap} {v : Value} {k : RS} (x : StepIn P w h v k) (kp : ∀ b o, h.get? b = some o → o.cls = .type "tuple" → h'.get? b = some o) : StepIn P w h' v k := by
  obtain ⟨t, wa, o, n, t1, t2, ks, e, ho, hc, hd, o3, it3, n3, ho3, hc3, r3⟩ := x
  exact ⟨t, wa, o, n, t1, t2, ks, e, kp _ _ ho hc, hc, hd, o3, it3, n3, kp _ _ ho3 hc3, hc3, r3⟩
theorem firsts {h : Heap} {kf : Value → RS} : ∀ vs : List Value, (∀ v ∈ vs, StepIn P w h v (kf v)) → ∃ fs : List Value, PySem.W.KatTups h vs fs ∧ fs.length = vs.length ∧ ∀ f ∈ fs, ∃ i t, f = Value.int i t
  | [], _ => ⟨[], PySem.W.KatTups.nil, rfl, fun f hf => by cases hf⟩
  | v :: vs, x => by
    obtain ⟨fs, k, hl, hi⟩ := firsts vs fun u hu => x u (List.mem_cons_of_mem _ hu)
    obtain ⟨t, wa, o, n, t1, t2, ks, rfl, ho, hc, hd, _⟩ := x v List.mem_cons_self
    refine ⟨.int _ t1 :: fs, PySem.W.KatTups.cons ho hc hd rfl k, by rw [List.length_cons, List.length_cons, hl], fun f hf => ?_⟩
    rcases List.mem_cons.mp hf with rfl | hf
    · exact ⟨_, _, rfl⟩
    · exact hi f hf
theorem kind_steps {A : Around} {E : Value → Shared → Prop} {s : Shared} {vs : List Value} {kf : Value → RS} {r : Value → Int} (h2 : 2 ≤ vs.length) (hu : A.units < cLine) (x : ∀ v ∈ vs, StepIn P w s.heap v (kf v)) (one : ∀ v ∈ vs, ∀ u ∈ vs, kf v = kf u → v = u)
    (hr : ∀ v ∈ vs, ∀ u ∈ vs, decide (r v < r u) = rsLt (kf v) (kf u)) (Q : SortKind → Shared → Prop) (h : ∀ κ, TS.Cmp P w A s κ (pairsOf vs) r → Q κ s) : wpAny (model P w) A (keyKind' vs.toArray) Q E s := by
  obtain ⟨fs, k, hl, hi⟩ := firsts vs x
  refine PySem.W.kat_kind (T := Value.type "int") k (by omega) (fun f hf => ?_) rfl (h _ ?_)
  · obtain ⟨i, t, rfl⟩ := hi f hf
    exact PySem.W.Looks.of_pure rfl
  · intro p q hp hq Q' E' hQ
    rw [pairsOf_toList] at hp hq
    have mp := (mem_zip_self hp).2
    have mq := (mem_zip_self hq).2
    have hQ : Q' (rsLt (kf p.1) (kf q.1)) s := by
      rw [← hr _ mp _ mq]
      exact hQ
    have same := one _ mp _ mq
    obtain ⟨t, wa, o, n, t1, t2, ks, e1, ho, hc, hd, kw⟩ := x _ mp
    obtain ⟨t', wa', o', n', t1', t2', ks', e2, ho', hc', hd', kw'⟩ := x _ mq
    rw [e1, e2]
    rw [e1, e2] at same
    have same : kf p.1 = kf q.1 → t = t' := fun e => by
      rw [e1, e2] at e
      have := same e
      cases this
      rfl
    generalize kf p.1 = a at *
    generalize kf q.1 = b at *
    refine PySem.W.kat_lt ho hd ho' hd' ?_
    show PySem.W.KatLex P w A true false Q' [(.int a.1 t1, .int b.1 t1'), (.str a.2 t2, .str b.2 t2'), (.ref wa, .ref wa')] 0 s
    refine PySem.W.kat_cons (wpAny_eqBool_int ?_)
    refine PySem.W.kat_go (fun e => PySem.W.kat_yes ?_) (fun e => PySem.W.kat_no ?_)
    · have e := of_decide_eq_true e
      refine PySem.W.kat_cons (wpAny_eqBool_str ?_)
      refine PySem.W.kat_go (fun e' => PySem.W.kat_yes ?_) (fun e' => PySem.W.kat_no ?_)
      · have e' := of_decide_eq_true e'
        have ab : a = b := Prod.ext e e'
        have tt := same ab
        subst tt
        rw [ho] at ho'
        cases ho'
        rw [hd] at hd'
        have hw : wa = wa' := by
          have := (Data.seq.inj hd').1
          simp at this
          exact this.2.2
        subst hw
        rw [ab, rsLt_irr] at hQ
        refine PySem.W.kat_cons (wpAny_eqBool_tuple hu kw kw ?_)
        refine PySem.W.kat_go (fun _ => PySem.W.kat_yes (PySem.W.kat_nil hQ)) (fun z => ?_)
        rw [decide_eq_true rfl] at z
        cases z
      · show wpAny _ _ (oneLt' false _ _) _ _ _
        refine PySem.W.kat_one _ _ (lt_str ?_)
        have : rsLt a b = decide (a.2.cps.toList < b.2.cps.toList) := by
          unfold rsLt
          rw [decide_eq_false (by omega), decide_eq_true e]
          rfl
        rw [this] at hQ
        exact hQ
    · show wpAny _ _ (oneLt' true _ _) _ _ _
      refine oneLt_int ?_
      have ne : ¬ a.1 = b.1 := by simpa using e
      have : rsLt a b = decide (a.1 < b.1) := by
        unfold rsLt
        rw [decide_eq_false ne, Bool.false_and, Bool.or_false]
      rw [this] at hQ
      exact hQ
theorem sort_steps {A : Around} {E : Value → Shared → Prop} {s : Shared} {a : Addr} {vs : List Value} {n : Nat} {Q : PySem.Fin → Shared → Prop} {kf : Value → RS} (ho : s.heap.get? a = some (seqObj "list" vs.toArray n)) (h64 : vs.length < 64) (hu : A.units < cLine)
    (x : ∀ v ∈ vs, StepIn P w s.heap v (kf v)) (one : ∀ v ∈ vs, ∀ u ∈ vs, kf v = kf u → v = u)
    (h : ∀ out : Array Value, out.toList.Perm vs → out.toList.Pairwise (fun u v => rsLt (kf v) (kf u) = false) → Q (.done (.ret .none)) { s with heap := sortedHeap s.heap a vs out }) : wpAny (model P w) A (Builtin.«list.sort» ⟨[.ref a], []⟩) Q E s := by
  have keep : ∀ b o, s.heap.get? b = some o → o.cls = .type "tuple" → (TS.midHeap s.heap a vs).get? b = some o := fun b o e hc => by
    refine TS.midHeap_old ?_ e
    rintro rfl
    rw [ho] at e
    cases e
    exact absurd (Value.type.inj hc) (by decide)
  have hr : ∀ v ∈ vs, ∀ u ∈ vs, decide (rk (vs.map kf) (kf v) < rk (vs.map kf) (kf u)) = rsLt (kf v) (kf u) := fun v hv u hu => rk_lt (List.mem_map_of_mem hv) (List.mem_map_of_mem hu)
  refine SK.plain_sort (r := fun v => rk (vs.map kf) (kf v)) ho h64 (fun h2 Q' hQ => ?_) fun ps out h1 h2 h3 => ?_
  · exact kind_steps (s := { s with heap := TS.midHeap s.heap a vs }) h2 hu (fun v hv => (x v hv).keeps keep) one hr Q' hQ
  · obtain ⟨p, o⟩ := TS.out_rank (r := fun v => rk (vs.map kf) (kf v)) h1 h2 h3
    refine h out p (List.Pairwise.imp_of_mem (fun {u v} hu hv hle => ?_) o)
    rw [← hr v (p.mem_iff.mp hv) u (p.mem_iff.mp hu)]
    exact decide_eq_false (by omega)
end
section
variable {X : Cx}
theorem step_in {pins : List (Addr × Obj)} {σ : L2.St} {H : Hp} {s : Shared} (I : Inv X pins σ H s) {t wa : Addr} {k : RS} {ks : List Key} (h : H t = some (.tup [.int k.1, .str k.2, .ref wa])) (hw : H wa = some (.tup (ks.map kV))) : StepIn X.prog X.w s.heap (.ref t) k := by
  obtain ⟨_, its, r, o, ho, hc, n, hd⟩ := (show ObjOk X.prog X.w H s.heap t _ from I.hok t _ h)
  cases r with
  | cons r1 r =>
  cases r with
  | cons r2 r =>
  cases r with
  | cons r3 r =>
  cases r
  obtain ⟨t1, rfl⟩ := r1
  obtain ⟨t2, rfl⟩ := r2
  cases r3
  exact ⟨t, wa, o, n, t1, t2, ks, rfl, ho, hc, hd, mix_at I hw⟩
/-- sorted(xs), xs a list of steps, no two of the same room and sign -/
def rSortS (K : PySem.W.Frag) : List V → Hp → VK → Prop := fun vs H Q => ∃ (a : Addr) (xs : List V) (kf : V → RS), vs = [V.ref a] ∧ SqL K H a xs ∧ xs.length < 64 ∧ (∀ x ∈ xs, ∃ t wa ks, x = .ref t ∧ H t = some (.tup [.int (kf x).1, .str (kf x).2, .ref wa]) ∧ H wa = some (.tup (List.map kV ks))) ∧
  (∀ x ∈ xs, ∀ y ∈ xs, kf x = kf y → x = y) ∧ ∀ (ys : List V) (p : Addr), ys.Perm xs → ys.Pairwise (fun x y => rsLt (kf y) (kf x) = false) → H p = none → Q (.ref p) (upd H p (.lst ys))
theorem cr_sortS (hu : X.A.units + 2 < cLine) : CallR X (.builtin "sorted") (rSortS X.K) := by
  intro pins s σ H vs us Q I r h
  obtain ⟨a, xs, kf, rfl, hs, h64, hx, one, q⟩ := h
  obtain ⟨its, rv, hl, hz⟩ := I.list hs
  rw [Vals.ref1 r]
  obtain ⟨e1, e2⟩ := bkV_refs rv fun x m => by
    obtain ⟨t, _, _, e, _⟩ := hx x m
    exact ⟨t, e⟩
  have st : ∀ v ∈ its, StepIn X.prog X.w s.heap v (kf (bkV v)) := fun v hv => by
    obtain ⟨t, rfl⟩ := e2 v hv
    obtain ⟨t', wa, ks, e, h1, h2⟩ := hx (.ref t) (by rw [e1]; exact List.mem_map.mpr ⟨_, hv, rfl⟩)
    cases e
    exact step_in I h1 h2
  have on : ∀ v ∈ its, ∀ u ∈ its, kf (bkV v) = kf (bkV u) → v = u := fun v hv u hu e => by
    have := one (bkV v) (by rw [e1]; exact List.mem_map_of_mem hv) (bkV u) (by rw [e1]; exact List.mem_map_of_mem hu) e
    obtain ⟨t, rfl⟩ := e2 v hv
    obtain ⟨t', rfl⟩ := e2 u hu
    cases this
    rfl
  have n64 : its.length < 64 := by rw [← rv.length]; exact h64
  refine Calls.call_function_entry kind_sorted plain_sorted entry_sorted (args_sorted1 _) ?_
  unfold Builtin.«sorted»
  refine wpAny_bind (m := checkCount "sorted" 1 1 _) (wpAny_pure ?_)
  refine wpAny_bind (collect_list hl.isList ?_ (by rw [sizeLine_eq]; omega))
  refine wpAny_bind (wpAny_newList ?_ (by rw [sizeLine_eq]; omega))
  have sz : ((s.heap.push (seqObj "list" #[] 0)).update s.heap.objs.size (Obj.mapSeq (· ++ its.toArray))).objs.size = s.heap.objs.size + 1 := (Heap.size_update ..).trans (size_push' _ _)
  have new : (((s.heap.push (seqObj "list" #[] 0)).update s.heap.objs.size (Obj.mapSeq (· ++ its.toArray))).push (seqObj "list" its.toArray 0)).get? (s.heap.objs.size + 1) = some (seqObj "list" its.toArray 0) := sz ▸ Heap.get?_push_size _ rfl
  have old : ∀ b o, s.heap.get? b = some o → (((s.heap.push (seqObj "list" #[] 0)).update s.heap.objs.size (Obj.mapSeq (· ++ its.toArray))).push (seqObj "list" its.toArray 0)).get? b = some o := fun b o e => by
    have l : b < s.heap.objs.size := Heap.lt_size e
    rw [Heap.get?_push_ne _ _ _ (by rw [sz]; exact Nat.ne_of_lt (Nat.lt_succ_of_lt l)), Heap.get?_update_ne _ _ _ _ (Nat.ne_of_lt l), Heap.get?_push_ne _ _ _ (Nat.ne_of_lt l)]
    exact e
  show wpAny _ _ _ _ _ { s with heap := ((s.heap.push (seqObj "list" #[] 0)).update s.heap.objs.size (Obj.mapSeq (· ++ its.toArray))).push (seqObj "list" its.toArray 0) }
  rw [sz]
  refine wpAny_bind (wpAny_holding (wpAny_call_entry slot_list_sort ⟨_, new, rfl⟩ entry_list_sort (sort_steps (kf := fun v => kf (bkV v)) new n64 (by show X.A.units + 2 < cLine; exact hu) (fun v hv => (st v hv).keeps fun b o e _ => old b o e) on fun out a1 a2 => ⟨_, rfl, ?_⟩) (args_list_sort _)))
  refine wpAny_pure ⟨_, rfl, ?_⟩
  obtain ⟨ep, he'⟩ := PyProof.Rows.sortedAll_at s.heap its out
  have h3 : ∀ u ∈ out.toList, ∃ a, u = Value.ref a := fun u hu => e2 u (a1.mem_iff.mp hu)
  have hp : (out.toList.map bkV).Perm xs := by
    rw [e1]
    exact a1.map bkV
  refine ⟨.ref _, upd H (s.heap.objs.size + 1) (.lst (out.toList.map bkV)), I.laid (t' := s.toks) (fun _ _ => PyProof.Rows.sortedAll_old) (Nat.le_succ _) ⟨by rw [hp.length_eq]; exact hz, out.toList, ep, bkV_vals h3, he'⟩, rfl, q _ _ hp ?_ (I.hok.fresh (Nat.le_succ _))⟩
  rw [List.pairwise_map]
  exact a2
end
end Fb

/-! Part S4: enumerate of a tuple. -/
namespace Fb
open PySem PySem.Spec PyProof.Rows L2
open AutoSeq1 (wpAny_loadPart')
set_option maxHeartbeats 1000000 in
theorem meets_enumT (l : Addr) (items : Array Value) :
    Meets (Builtin.«enumerate.__new__» ⟨[.type "enumerate", .ref l], []⟩) (fun _ R s => s.heap.IsTuple l items ∧
      R (.ok (.ret (.ref (s.heap.push { cls := .type "tuple_iterator", data := .fields #[.ref l, .int 0 0] }).objs.size)))
        { s with heap := (s.heap.push { cls := .type "tuple_iterator", data := .fields #[.ref l, .int 0 0] }).push { cls := .type "enumerate", data := .fields #[.none, .bool false, .ref s.heap.objs.size, rawInt 0, .none, .none] } }) :=
  .of_wp fun prog w A R s h => by
    obtain ⟨hp, g, d, tk, os⟩ := s; obtain ⟨hL, h⟩ := h
    have hsub := sub_enumerate
    have q1 : ∀ {A' : Around} {E : Value → Shared → Prop} {Q : Value → Shared → Prop}, Q (.ref hp.objs.size) ⟨hp.push { cls := .type "tuple_iterator", data := .fields #[.ref l, .int 0 0] }, g, d, tk, os⟩ → wpAny (model prog w) A' (pyIter (.ref l)) Q E ⟨hp, g, d, tk, os⟩ :=
      fun q => wpAny_pyIter_tuple hL q
    wp_walk using q1
    refine wpAny_stack_any fun st => wpAny_pure ?_
    split
    · rename_i c _ _ _ _ _
      cases (c == Value.type "enumerate")
      · wp_walk using q1
        exact ⟨_, rfl, h⟩
      · wp_walk using q1
        exact ⟨_, rfl, h⟩
    · wp_walk using q1
      exact ⟨_, rfl, h⟩
theorem call_enumT {prog : Program} {w : World} {A : Around} {E : Value → Shared → Prop} {s : Shared} {l : Addr} {items : Array Value} {Q : Value → Shared → Prop} (hL : s.heap.IsTuple l items)
    (h : ∀ h', IsEnum h' (s.heap.objs.size + 1) s.heap.objs.size 0 .none → h'.IsTupleIter s.heap.objs.size l 0 → h'.objs.size = s.heap.objs.size + 2 →
      (∀ b o, s.heap.get? b = some o → h'.get? b = some o) → Q (.ref (s.heap.objs.size + 1)) { s with heap := h' }) :
    wpAny (model prog w) A (call (.type "enumerate") [.ref l]) Q E s := by
  refine callType_new F.called_enumerate (by decide) (F.typeCall_enumerate_1 _) (F.newCall_enumerate_1 _) (fun obj => F.args_object_init_2 obj _) F.entry_enumerate_new
    (meets_enumT l items) ⟨hL, ?_⟩
  have hz : (s.heap.push { cls := .type "tuple_iterator", data := .fields #[.ref l, .int 0 0] }).objs.size = s.heap.objs.size + 1 := Heap.size_push ..
  show _ ∧ _
  rw [hz]
  have he : IsEnum ((s.heap.push { cls := .type "tuple_iterator", data := .fields #[.ref l, .int 0 0] }).push
      { cls := .type "enumerate", data := .fields #[.none, .bool false, .ref s.heap.objs.size, rawInt 0, .none, .none] }) (s.heap.objs.size + 1) s.heap.objs.size 0 .none := by
    have := Heap.get?_push_size (s.heap.push { cls := .type "tuple_iterator", data := .fields #[.ref l, .int 0 0] })
      (o := { cls := .type "enumerate", data := .fields #[.none, .bool false, .ref s.heap.objs.size, rawInt 0, .none, .none] }) rfl
    rw [hz] at this; exact this
  refine ⟨⟨_, he, rfl⟩, h _ he ⟨_, Heap.get?_push_of_some _ (Heap.get?_push_size _ rfl), rfl, rfl⟩ (by rw [Heap.size_push, hz]) fun b o x => Heap.get?_push_of_some _ (Heap.get?_push_of_some _ x)⟩
/-- the tuple at a, each item in a new pair -/
def IteT (K : PySem.W.Frag) (a : Addr) : It :=
  ⟨fun i H => ∃ (xs : List V) (x : V), SqT K H a xs ∧ xs[i]? = some x, fun i H v H' => ∃ T x, v = .ref T ∧ H T = none ∧ H' = upd H T (.tup [.int (i : Nat), x]) ∧ ∀ xs, SqT K H a xs → xs[i]? = some x, fun i H => ∃ xs : List V, SqT K H a xs ∧ xs.length ≤ i⟩
theorem turn_enumT {P : Program} {w : World} {K : PySem.W.Frag} {elts : List Expr} {kk : Nat} {tpos : Pos} (a e it : Addr) :
    Turn P w K (.Tuple elts kk tpos) (IteT K a) [e, it] e (fun i h => (∃ old, IsEnum h e it ((i : Nat) : Int) old) ∧ h.IsTupleIter it a i ∧ e ≠ it) where
  mem := by simp
  obj := fun i h st b hb => by
    obtain ⟨⟨old, he⟩, ⟨o, ho, hc, hd⟩, _⟩ := st
    have e' : b = e ∨ b = it := by simpa using hb
    rcases e' with z | z
    · rw [z]; exact ⟨_, he, fun v q => nomatch q⟩
    · rw [z]; exact ⟨o, ho, fun v q => by rw [hd] at q; cases q⟩
  keep := fun i h h' st k => let ⟨⟨old, he⟩, hi, hne⟩ := st; ⟨⟨old, k e (by simp) _ he⟩, hi.at fun o q => k it (by simp) o q, hne⟩
  item := by
    intro X hP hw hK hc i pins s σ H E I hf st hg
    subst hP hw hK
    obtain ⟨⟨old, he⟩, hit, hne⟩ := st
    obtain ⟨xs, x, hq, hx⟩ := hg
    obtain ⟨its, rv, p, hz⟩ := I.tuple hq
    obtain ⟨u, hu, ru⟩ := rv.get hx
    have hel : e < s.heap.objs.size := Heap.lt_size he
    have hil : it < s.heap.objs.size := by obtain ⟨_, q, _⟩ := hit; exact Heap.lt_size q
    have pt : s.heap.IsTuple a its.toArray := p
    have hai : a ≠ it := by
      rintro rfl
      obtain ⟨o1, e1, c1, _⟩ := pt
      obtain ⟨o2, e2, c2, _⟩ := hit
      rw [e1] at e2
      cases e2
      rw [c1] at c2
      exact absurd (Value.type.inj c2) (by decide)
    have hea : e ≠ a := by
      rintro rfl
      obtain ⟨o1, e1, c1, _⟩ := pt
      have e2 := e1.symm.trans he
      cases e2
      exact absurd (Value.type.inj c1) (by decide)
    have hil' : i < its.toArray.size := by
      have := (List.getElem?_eq_some_iff.mp hu).1
      simpa using this
    refine wpAny_pyNext_enum_itemD (Draws.tuple (prog := X.prog) (w := X.w) (A := X.A.in1) (show X.A.in1.handled = none from I.ok.hd hc) it a hai its.toArray) he ⟨hit, pt⟩ hil' hne (by simp [hne, hea]) fun x' h' tk hP ho hst hT hsz hk => ?_
    have hux : x' = u := by
      have h1 : its[i]? = some x' := by simpa using hP
      rw [hu] at h1
      exact (Option.some.inj h1).symm
    subst hux
    obtain ⟨hit', _⟩ := hst
    refine ⟨_, rfl, wpAny_letOwnedTupleGo_enum (s := { s with heap := h', toks := tk + 1 }) ho fun h'' he' sb => ?_⟩
    have hT2 : h''.get? s.heap.objs.size = some { cls := .type "tuple", data := .seq #[.int i tk, x'] } := (sb.2 _ (Nat.ne_of_gt hel)).trans hT
    have new : ObjOk X.prog X.w (upd H s.heap.objs.size (.tup [.int (i : Nat), x])) h'' s.heap.objs.size (.tup [.int (i : Nat), x]) :=
      ⟨by show 2 ≤ sizeLine; decide, [.int i tk, x'], .cons ⟨_, rfl⟩ (.cons ru .nil), ⟨_, hT2, rfl, _, rfl⟩⟩
    have I1 : Inv X pins σ (upd H s.heap.objs.size (.tup [.int (i : Nat), x])) { s with heap := h'', toks := tk + 1 } :=
      I.turnedNew (ch := [e, it]) (fun b ob hb q => (sb.2 b (fun z => hb (by simp [z]))).trans (hk b ob (fun z => hb (by simp [z])) (fun z => hb (by simp [z])) q)) hf (Nat.le_refl _) new
    refine ⟨.ref s.heap.objs.size, _, I1, rfl, ⟨_, x, rfl, I.hok.fresh (Nat.le_refl _), rfl, fun ys hy => by rw [I.tuple_inj hy hq]; exact hx⟩, ⟨⟨x', ?_⟩, hit'.at fun o q => (sb.2 it (Ne.symm hne)).trans q, hne⟩, fun b hb => ?_⟩
    · have e1 : ((i + 1 : Nat) : Int) = (i : Int) + 1 := by omega
      rw [e1]; exact he'
    · have hb' : b < s.heap.objs.size := by
        have e' : b = e ∨ b = it := by simpa using hb
        rcases e' with z | z
        · rw [z]; exact hel
        · rw [z]; exact hil
      rw [upd_ne (Nat.ne_of_lt hb')]
      exact (hf b hb).1
  done := by
    intro X hP hw hK hc i pins s σ H E I hf st hg
    subst hP hw hK
    obtain ⟨⟨old, he⟩, hit, hne⟩ := st
    obtain ⟨xs, hq, hx⟩ := hg
    obtain ⟨its, rv, p, hz⟩ := I.tuple hq
    obtain ⟨f0, f1, f2, f3, f4, f5⟩ := hf it (by simp)
    have hl := rv.length
    have hT : s.TypeIs (.ref e) "enumerate" := ⟨_, he, rfl⟩
    unfold pyNext
    refine wpAny_bind (wpAny_attempt (wpAny_callSpecial?_slot (name := Str.ofString "__next__") hT F.slot_enumerate_next
      (wpAny_call_entry F.slot_enumerate_next hT F.entry_enumerate_next ?_ (F.args_enumerate_next_1 _))))
    show wpAny _ _ (field (.ref e) 2 >>= _) _ _ _
    refine wpAny_bind (wpAny_field he rfl (x := .ref it) rfl ?_)
    refine wpAny_bind (wpAny_nextOf_tuple_end (I.ok.hd hc) hit p (by simp; omega) fun h' x he' hx' => ?_)
    obtain ⟨o, ho, hc⟩ := hx'
    refine wpAny_bind (wpAny_isInstance (T := "StopIteration") (b := true) ⟨o, ho, hc⟩ isSubtype_stop ?_)
    exact wpAny_pure ⟨rfl, I.turned (t' := s.toks) (fun b o hb q => he' b o hb q) f0 f1 f3 f4 f5⟩
  self := fun A i s Q E st h => let ⟨⟨_, he⟩, _⟩ := st; wpAny_pyIter_enum he h
def iEnumT (K : PySem.W.Frag) (ta : TA) : TI := fun σ H R => ta σ H fun vs H1 => ∃ a xs, vs = [.ref a] ∧ SqT K H1 a xs ∧ R (IteT K a) H1
theorem pi_enumT {X : Cx} {e : Expr} {ta : TA} {p pos tpos : Pos} {elts : List Expr} {kk : Nat} (hg : Gl X "enumerate") (hm : X.mg "enumerate" = none) (ha : PA X [e] ta) (hs : starEach [e] X.env = [(false, eval e X.env)] := by rfl) :
    PI X (.Tuple elts kk tpos) (.Call (.Name "enumerate" p) [e] [] pos) (iEnumT X.K ta) := by
  refine ⟨fun pins s σ H R I h => ?_⟩
  refine Call_ (ld_blt I hg hm boot_enumerate (PyProof.Rows.callWith_type1 (thn (ha.run pos pins s σ H _ I h) fun us s1 ⟨vs, H1, I1, r1, q1⟩ => ?_) hs rfl))
  obtain ⟨a, xs, ex, hq, q⟩ := q1
  subst ex
  cases r1 with
  | cons r rr =>
    cases rr
    cases r
    obtain ⟨its, rv, p', hz⟩ := I1.tuple hq
    refine call_enumT p' fun h' he hit hsz hk => wpAny_pyIter_enum he ?_
    have I2 : Inv X pins σ H1 { s1 with heap := h' } := I1.kept (t' := s1.toks) hk
    refine ⟨s1.heap.objs.size + 1, [s1.heap.objs.size + 1, s1.heap.objs.size], _, _, H1, rfl, I2, turn_enumT a (s1.heap.objs.size + 1) s1.heap.objs.size, ⟨⟨.none, he⟩, hit, Nat.succ_ne_self _⟩, fun b hb => ?_, q⟩
    have e' : b = s1.heap.objs.size + 1 ∨ b = s1.heap.objs.size := by simpa using hb
    have hle : s1.heap.objs.size ≤ b := by
      rcases e' with z | z
      · rw [z]; exact Nat.le_add_right _ _
      · rw [z]; exact Nat.le_refl _
    exact I1.fpOk hle (I1.hok.fresh hle)
theorem walk_enumT {K : PySem.W.Frag} {a : Addr} {xs : List V} : Walk (IteT K a) xs.length (fun H => SqT K H a xs) (YPair (fun i => some (.int (i : Nat))) (fun i => xs[i]?)) := by
  refine ⟨fun i _ hi q => ⟨xs, xs[i], q, by simp [hi]⟩, fun _ q => ⟨xs, q, Nat.le_refl _⟩, fun i H v H' _ q y => ?_⟩
  obtain ⟨T, x, h1, h2, h3, h4⟩ := y
  exact ⟨T, .int (i : Nat), x, h1, h2, h3, rfl, h4 xs q⟩
section
variable {J : It} {n : Nat} {G : Hp → Prop} {Y : Nat → Hp → V → Hp → Prop}
/-- [e for x in .. if ..]: just those that are let by -/
theorem lc_filtW (w : Walk J n G Y) {g : TG} {tt : TT} {te : TE} {vs : List Nat} {σ : L2.St} {H1 : Hp} {D : Addr} {Qd : Hp → Prop} (t : Nat → Bool) (R : Nat → V → Hp → Prop) (mono : ∀ i v H H', Same H H' → R i v H → R i v H')
    (hD : H1 D = none) (hS : ∀ H, Same H1 H → G H) (hz : n ≤ 1000)
    (hs : ∀ (i : Nat) x H H' (kt : V → Hp → Prop) (kf : Hp → Prop), i < n → Same H1 (hid D H) → (∃ ys, H D = some (.lst ys)) → Y i H x H' → (t i = true → ∀ y H4, Same H H4 → R i y (hid D H4) → kt y H4) → (t i = false → ∀ H4, Same H H4 → kf H4) →
      g x (wipe σ vs) H' fun σ2 H2 => wipe σ2 vs = wipe σ vs ∧ tt σ2 H2 fun b H3 => if b = true then te σ2 H3 kt else kf H3)
    (hd : ∀ H ys, Same H1 (hid D H) → H D = some (.lst ys) → AllAre (fun y i => R i y (hid D H)) ys ((List.range n).filter t) → Qd H) :
    ∃ W : Nat → Nat → Hp → Prop, (∃ m, W 0 m (upd H1 D (.lst []))) ∧ ∀ i m H, W i m H →
      (J.stop i H ∧ Qd H) ∨ (J.go i H ∧ ∃ Nx : Hp → Prop, (∀ H', Nx H' → ∃ m', m' < m ∧ W (i + 1) m' H') ∧ ∀ x H', J.yld i H x H' → g x (wipe σ vs) H' fun σ2 H2 => wipe σ2 vs = wipe σ vs ∧ tt σ2 H2 fun b H3 =>
        if b = true then te σ2 H3 fun y H4 => ∃ acc, H4 D = some (.lst acc) ∧ acc.length < sizeLine ∧ Nx (upd H4 D (.lst (acc ++ [y]))) else Nx H3) := by
  refine lc_it w (fun i H => ∃ ys, Same H1 (hid D H) ∧ H D = some (.lst ys) ∧ AllAre (fun y j => R j y (hid D H)) ys ((List.range i).filter t)) ⟨[], ?_, upd_same, .nil⟩ (fun i H _ h => ?_) (fun i x H H' hi h y => ?_) (fun H h => ?_)
  · intro b o e
    rw [hid_ne (ne_of_none e hD), upd_ne (ne_of_none e hD)]
    exact e
  · obtain ⟨ys, s, _⟩ := h
    exact hS H (s.trans hid_same)
  · obtain ⟨ys, s, e, a⟩ := h
    refine hs i x H H' (fun y H4 => ∃ acc, H4 D = some (.lst acc) ∧ acc.length < sizeLine ∧ ∃ ys, Same H1 (hid D (upd H4 D (.lst (acc ++ [y])))) ∧ (upd H4 D (.lst (acc ++ [y]))) D = some (.lst ys) ∧ AllAre (fun y' j => R j y' (hid D (upd H4 D (.lst (acc ++ [y]))))) ys ((List.range (i + 1)).filter t)) (fun H3 => ∃ ys, Same H1 (hid D H3) ∧ H3 D = some (.lst ys) ∧ AllAre (fun y j => R j y (hid D H3)) ys ((List.range (i + 1)).filter t)) hi s ⟨_, e⟩ y (fun ht y H4 s4 r4 => ?_) (fun hf H4 s4 => ?_)
    · have ll : ys.length < 1000 := by
        have h1 := a.1
        have h2 := List.length_filter_le t (List.range i)
        rw [List.length_range] at h2
        omega
      refine ⟨ys, s4 _ _ e, small1000 (by omega), ys ++ [y], ?_, upd_same, ?_⟩
      · rw [hid_upd]
        exact s.trans (hid_mono s4)
      · rw [hid_upd, List.range_succ, List.filter_append, List.filter_cons_of_pos ht, List.filter_nil]
        exact AllAre.snoc (a.imp fun _ _ r => mono _ _ _ _ (hid_mono s4) r) r4
    · refine ⟨ys, s.trans (hid_mono s4), s4 _ _ e, ?_⟩
      rw [List.range_succ, List.filter_append, List.filter_cons_of_neg (by rw [hf]; exact Bool.false_ne_true), List.filter_nil, List.append_nil]
      exact a.imp fun _ _ r => mono _ _ _ _ (hid_mono s4) r
  · obtain ⟨ys, s, e, a⟩ := h
    exact hd H ys s e a
end
end Fb

/-! Part S5: a tuple once or more times over. -/
namespace Fb
open PySem PySem.Spec PyProof.Rows L2
open AutoSeq1 (wpAny_loadPart')
theorem tuple_mul1 (l : Addr) (items : Array Value) (n : Nat) (sl : Array (Option Value)) (dd : Option Addr) (u : Tok) :
    Meets (Builtin.«tuple.__mul__» ⟨[.ref l, .int 1 u], []⟩) (fun _ R s => s.heap.get? l = some { cls := .type "tuple", dict := dd, data := .seq items n, slots := sl } ∧
      R (.ok (.ret (Value.ref l))) s) :=
  .of_wp fun prog w A R s h => by
    obtain ⟨hp, g, d, tk, os⟩ := s
    obtain ⟨hl, h⟩ := h
    have f1 := AutoSeq1.idx_int
    have c1 : (items.isEmpty || (1 : Int) == 1) = true := by simp
    wp_walk using wpAny_loadPart' hl
    repeat (first
      | (refine wpAny_ite_true (decide_eq_true (by rw [c1])) ?_; wp_walk using wpAny_loadPart' hl)
      | (refine wpAny_ite_true c1 ?_; wp_walk using wpAny_loadPart' hl)
      | (refine wpAny_ite_false (by decide) ?_; wp_walk using wpAny_loadPart' hl))
    exact ⟨_, rfl, h⟩
def rRepA (K : PySem.W.Frag) : R2 := fun x y H Q => ∃ l k xs, x = .ref l ∧ y = .int k ∧ SqT K H l xs ∧ xs ≠ [] ∧ 1 ≤ k ∧ k ≤ 1000 ∧ xs.length ≤ 1000 ∧ (k = 1 → Q (.ref l) H) ∧ (2 ≤ k → ∀ p, H p = none → Q (.ref p) (upd H p (.tup (List.replicate k.toNat xs).flatten)))
theorem op_repA {X : Cx} : OpR X (binaryOp .Mult) (rRepA X.K) := by
  intro pins s σ H x y v u Q I rx ry h
  obtain ⟨l, k, xs, rfl, rfl, hT, hne, h1, h2, hz, q1, q2⟩ := h
  by_cases h2k : 2 ≤ k
  · exact op_repT pins s σ H _ _ v u Q I rx ry ⟨l, k, xs, rfl, rfl, hT, hne, h2k, h2, hz, q2 h2k⟩
  · have : k = 1 := by omega
    subst this
    cases rx
    obtain ⟨t, rfl⟩ := ry
    obtain ⟨its, r, ⟨⟨cls, dd, data, sl⟩, ho, hc, n, hd⟩, hs⟩ := I.tuple hT
    simp only at hc hd
    subst hc hd
    refine wpAny_binaryOp_repeat_ref (T := "tuple") (U := "int") (by decide) ⟨_, ho, rfl⟩ (fun s' => typeIs_int s' 1 t) noFill_tuple_mul F.fills_int_mul F.slot_int_rmul repeat_tuple F.slot_int_index.lookup
      (call_meets F.slot_int_rmul (typeIs_int s 1 t) F.entry_int_rmul (F.args_int_rmul_2 _ _) (int_rmul_tuple 1 t l its.toArray n dd sl)
        ⟨ho, rfl, ⟨_, ho, rfl⟩, call_meets F.slot_tuple_mul ⟨_, ho, rfl⟩ F.entry_tuple_mul (F.args_tuple_mul_2 _ _) (tuple_mul1 l its.toArray n sl dd t) ⟨ho, ?_⟩⟩)
    exact ⟨.ref l, H, I, rfl, q1 rfl⟩
theorem op_repAK {X : Cx} {K : PySem.W.Frag} (hK : X.K = K) : OpR X (binaryOp .Mult) (rRepA K) := hK ▸ op_repA
theorem op_catTK {X : Cx} {K : PySem.W.Frag} (hK : X.K = K) : OpR X (binaryOp .Add) (rCatT K) := hK ▸ op_catT
end Fb

/-! Part X1: refusals with a value: several except clauses, with names or without; what the written part says of such a class. -/
namespace Fb
open PySem PySem.Spec PyProof.Rows L2
/-- what the clauses wish of an exception of the body, one after the other; a clause may name the exception (slot i) -/
def wManyN (K : PySem.W.Frag) (Wout : WX) (D : Ends) : List (Value × Option Nat × (Addr → Value → Option Addr → L2.TS)) → WX
  | [] => Wout
  | (c, none, ts) :: r => fun cls d σ H => ∃ b, PySem.W.exmOne K cls c = some b ∧ (b = true → ∀ a, H a = none → ts a cls d D σ H) ∧ (b = false → wManyN K Wout D r cls d σ H)
  | (c, some i, ts) :: r => fun cls d σ H => ∃ b, PySem.W.exmOne K cls c = some b ∧
    (b = true → ∀ a, H a = none → ts a cls d { nx := fun σ' H' => D.nx (σ'.set i none) H', rt := D.rt, bk := fun σ' H' => D.bk (σ'.set i none) H', ct := fun σ' H' => D.ct (σ'.set i none) H' } (σ.set i (some (.ref a))) H) ∧ (b = false → wManyN K Wout D r cls d σ H)
inductive HdsN (X : Cx) : List ExceptHandler → List (Value × Option Nat × (Addr → Value → Option Addr → L2.TS)) → Prop
  | nil : HdsN X [] []
  | cons {x : Str} {c : Value} {ts : Addr → Value → Option Addr → L2.TS} {b₀ : Stmt} {suite : List Stmt} {np pos' : Pos} {hds : List ExceptHandler} {l : List (Value × Option Nat × (Addr → Value → Option Addr → L2.TS))} (hc : Names X x c)
      (hsu : ∀ (a : Addr) (oe : Obj) (cls : Value) (d : Option Addr) (pn : List (Addr × Obj)), Zc cls d oe → (∃ vs, oe.data = .fields vs) → PSs (X.suite a ((a, oe) :: pn)) (b₀ :: suite) (ts a cls d)) (r : HdsN X hds l) :
      HdsN X (.ExceptHandler (some (.Name x np)) none (b₀ :: suite) pos' :: hds) ((c, none, ts) :: l)
  | as {x n : Str} {i : Nat} {c : Value} {ts : Addr → Value → Option Addr → L2.TS} {b₀ : Stmt} {suite : List Stmt} {np pos' : Pos} {hds : List ExceptHandler} {l : List (Value × Option Nat × (Addr → Value → Option Addr → L2.TS))} (hi : X.N[i]? = some n) (hln : X.env.kindOf n = some .local) (hc : Names X x c)
      (hsu : ∀ (a : Addr) (oe : Obj) (cls : Value) (d : Option Addr) (pn : List (Addr × Obj)), Zc cls d oe → (∃ vs, oe.data = .fields vs) → PSs (X.suite a ((a, oe) :: pn)) (b₀ :: suite) (ts a cls d)) (r : HdsN X hds l) :
      HdsN X (.ExceptHandler (some (.Name x np)) (some n) (b₀ :: suite) pos' :: hds) ((c, some i, ts) :: l)
section
variable {X : Cx} {body : List Stmt} {h₀ : ExceptHandler} {hds : List ExceptHandler} {l : List (Value × Option Nat × (Addr → Value → Option Addr → L2.TS))} {pos : Pos} {tb : WX → L2.TS} {Wout : WX}
theorem ps_try_manyN (hs : X.stack = X.env :: X.outer) (hf : X.env.frame = some X.env.locals) (hN : X.N.Nodup) (tk : Takes X Wout)
    (hb : ∀ (W : WX) (pn : List (Addr × Obj)) (xe : Value → Shared → Prop), Takes (X.tr pn xe) W → PassesOwn (model X.prog X.w) X.A X.env xe → PSs (X.tr pn xe) body (tb W))
    (hh : HdsN X (h₀ :: hds) l) : PS X (.Try body (h₀ :: hds) [] [] pos) (fun D σ H => tb (wManyN X.K Wout D l) D σ H) := by
  refine ⟨fun pins s σ H D I h => ?_⟩
  have ok := I.ok
  have hfr : X.A.frames = some (X.env :: X.outer) := by rw [ok.frames, hs]
  refine wpAny_Try_except ?_
  refine wpAny_mono ((hb (wManyN X.K Wout D l) (X.pn ++ pins) (fun e s₁ => wpAny (model X.prog X.w) X.A (noteFrame e X.env) (fun _ s₂ => wpAny (model X.prog X.w) X.A (setFlight e none) (fun _ s₃ =>
    wpAny (model X.prog X.w) X.A (handleBy e X.env (h₀ :: hds)) (SP X pins D) X.xe s₃) X.xe s₂) X.xe s₁) (fun u s' xx => ?_) PassesOwn.looking).run [] s σ H D (I.toTry _) h) (fun f s1 hsp => ?_) (fun e s1 he => he)
  · obtain ⟨a, B, sI, pins', σ', H', cls, d, rfl, J', nb, up, sky, na, os, ag, w⟩ := xx
    have J : Inv X pins σ' H' sI := J'.ofTry ok
    have sky' : Sky B (X.env :: X.outer) a (Zc cls d) X.env.locals s'.heap := by rw [← hs]; exact sky
    show wpAny (model X.prog X.w) X.A (noteFrame (.ref a) X.env) _ _ _
    refine Sky.land Zc.steady hfr hf sky' fun h3 fl3 up3 => ?_
    have J3 : Inv X pins σ' H' { s' with heap := h3 } := J.landed nb fl3.1 (up.trans up3) os ag
    obtain ⟨oe3, vs3, he3, hz3, hd3⟩ := fl3.there
    have nfr : a ∉ frs (X.env :: X.outer) := fun hm => by
      obtain ⟨_, o', e', hnf⟩ := fl3.2.2.1.mem hm
      rw [he3] at e'
      cases e'
      exact hnf _ hd3
    have nL : a ≠ X.env.locals := fun z => nfr (List.mem_filterMap.mpr ⟨X.env, List.mem_cons_self, by rw [hf, z]⟩)
    have nF : a ∉ X.fs := fun hm => by
      obtain ⟨e, he, q⟩ := List.mem_filterMap.mp hm
      exact nfr (List.mem_filterMap.mpr ⟨e, List.mem_cons_of_mem _ he, q⟩)
    have S3 := J3.suite he3 hd3 na nL nF
    have LT : PySem.W.Looks (model X.prog X.w) h3 (typeOf (.ref a)) cls := fun A Q E s k q => wpAny_typeOf_ref (k _ _ he3) (by rw [hz3.1]; exact q)
    have test : ∀ {x : Str} {c : Value} {np : Pos} {Q : Value → Shared → Prop} {E : Value → Shared → Prop}, Names X x c → Q c { s' with heap := h3 } → wpAny (model X.prog X.w) (X.A.mark (some (.ref a))) (eval (.Name x np) X.env) Q E { s' with heap := h3 } := fun {x c np Q E} hc q => by
      obtain ⟨hg, hdbg, hm | ⟨hm, hv, hnn⟩⟩ := hc
      · exact ld_glob (X := X.suite a ((a, oe3) :: (X.pn ++ pins))) S3 hg hm q hdbg
      · exact ld_blt (X := X.suite a ((a, oe3) :: (X.pn ++ pins))) S3 hg hm hv q hnn hdbg
    have go : ∀ {hds' : List ExceptHandler} {l' : List (Value × Option Nat × (Addr → Value → Option Addr → L2.TS))}, HdsN X hds' l' → wManyN X.K Wout D l' cls d σ' H' →
        wpAny (model X.prog X.w) X.A (handleBy (.ref a) X.env hds') (SP X pins D) X.xe { s' with heap := h3 } := by
      intro hds' l' hk
      induction hk with
      | nil =>
        intro w
        refine wpAny_handleBy_nil ?_
        obtain ⟨k1, k2, k3, oe, vs, T, oT, ts', he, hz, hd, h1, hr⟩ := id fl3
        unfold PySem.passOn
        refine wpAny_bind (wpAny_field he hd h1 ?_)
        rw [if_neg (show ¬ ((Value.ref T == Value.none) = true) from by simp)]
        have fin : wpAny (model X.prog X.w) X.A (setFlight (.ref a) X.env.frame) (fun _ s4 => wpAny (model X.prog X.w) X.A (throw (.ref a) : Sem Flow) (SP X pins D) X.xe s4) X.xe { s' with heap := h3 } := by
          rw [hf]
          refine HandSPX.setFlight_upZ fl3 fun h4 hh4 up4 => wpAny_throw (tk _ _ ?_)
          exact ⟨a, B, sI, pins, σ', H', cls, d, rfl, J, nb, (up.trans up3).trans up4, .inr (.inr (by rw [hs]; exact hh4)), na, os, ag, w⟩
        first
          | exact wpAny_bind (wpAny_pure (wpAny_bind fin))
          | exact wpAny_bind fin
      | @cons x c ts b₀ suite np pos' hds2 l2 hc hsu r ih =>
        intro w
        obtain ⟨b, hb1, hyes, hno⟩ := w
        refine wpAny_handleBy_cons (codeAny_handlers_test ?_) (by intro q; cases q)
        have LM := PySem.W.exm_one (M := model X.prog X.w) (J3.kIn) LT hb1
        refine test hc (LM.here ?_)
        cases b with
        | true =>
          refine codeAny_handlers_suite ?_
          refine HandSPX.lands_againZ fl3 fun h4 fl4 up4 => ?_
          have J4 : Inv X pins σ' H' { s' with heap := h4 } := J.landed nb fl4.1 ((up.trans up3).trans up4) os ag
          obtain ⟨oe4, vs4, he4, hz4, hd4⟩ := fl4.there
          have S4 := J4.suite he4 hd4 na nL nF
          refine wpAny_mono ((hsu a oe4 cls d (X.pn ++ pins) hz4 ⟨_, hd4⟩).run [] _ _ H' _ S4 (hyes rfl a na)) (fun f s6 hsp => ?_) (fun _ _ z => False.elim z)
          cases f with
          | next =>
            obtain ⟨σ6, H6, S6, q6⟩ := hsp
            exact ⟨_, _, S6.unsuite ok, q6⟩
          | brk =>
            obtain ⟨σ6, H6, S6, q6⟩ := hsp
            exact ⟨_, _, S6.unsuite ok, q6⟩
          | cont =>
            obtain ⟨σ6, H6, S6, q6⟩ := hsp
            exact ⟨_, _, S6.unsuite ok, q6⟩
          | ret u =>
            obtain ⟨v6, σ6, H6, S6, r6, q6⟩ := hsp
            exact ⟨_, _, _, S6.unsuite ok, r6, q6⟩
        | false =>
          show wpAny _ X.A (handleBy (.ref a) X.env hds2) _ _ _
          exact ih (hno rfl)
      | @as x n i c ts b₀ suite np pos' hds2 l2 hi hln hc hsu r ih =>
        intro w
        obtain ⟨b, hb1, hyes, hno⟩ := w
        refine wpAny_handleBy_cons (codeAny_handlers_test ?_) (by intro q; cases q)
        have LM := PySem.W.exm_one (M := model X.prog X.w) (J3.kIn) LT hb1
        refine test hc (LM.here ?_)
        cases b with
        | true =>
          refine codeAny_handlers_suite_as ?_
          refine HandSPX.lands_againZ fl3 fun h4 fl4 up4 => ?_
          have J4 : Inv X pins σ' H' { s' with heap := h4 } := J.landed nb fl4.1 ((up.trans up3).trans up4) os ag
          obtain ⟨oe4, vs4, he4, hz4, hd4⟩ := fl4.there
          have S4 := J4.suite he4 hd4 na nL nF
          refine store_ok (X := X.suite a ((a, oe4) :: (X.pn ++ pins))) (v := .ref a) S4 hN hi (.inl hln) rfl (fun s5 S5 => ?_) (.inr hln)
          refine wpAny_mono ((hsu a oe4 cls d (X.pn ++ pins) hz4 ⟨_, hd4⟩).run [] s5 _ H' _ S5 (hyes rfl a na)) (fun f s6 hsp => ?_) (fun _ _ z => False.elim z)
          have end_ : ∀ {σ6 : L2.St} {H6 : Hp} {Q : Shared → Prop}, Inv (X.suite a ((a, oe4) :: (X.pn ++ pins))) [] σ6 H6 s6 → (∀ s7, Inv X pins (σ6.set i none) H6 s7 → Q s7) →
              wpAny (model X.prog X.w) X.A (do bindName X.env n .none; unbindBehindTheSuite X.env n pos') (fun _ s7 => Q s7) X.xe s6 := fun {σ6 H6 Q} S6 hq => gone_ok (S6.unsuite ok) hN hi hln hq
          cases f with
          | next =>
            obtain ⟨σ6, H6, S6, q6⟩ := hsp
            exact end_ S6 fun s7 J7 => ⟨_, _, J7, q6⟩
          | brk =>
            obtain ⟨σ6, H6, S6, q6⟩ := hsp
            exact end_ S6 fun s7 J7 => ⟨_, _, J7, q6⟩
          | cont =>
            obtain ⟨σ6, H6, S6, q6⟩ := hsp
            exact end_ S6 fun s7 J7 => ⟨_, _, J7, q6⟩
          | ret u =>
            obtain ⟨v6, σ6, H6, S6, r6, q6⟩ := hsp
            exact end_ S6 fun s7 J7 => ⟨_, _, _, J7, r6, q6⟩
        | false =>
          show wpAny _ X.A (handleBy (.ref a) X.env hds2) _ _ _
          exact ih (hno rfl)
    exact go hh w
  · cases f with
    | next =>
      obtain ⟨σ', H', J', q⟩ := hsp
      exact wpAny_execs_nil ⟨σ', H', J'.ofTry ok, q⟩
    | brk =>
      obtain ⟨σ', H', J', q⟩ := hsp
      exact ⟨σ', H', J'.ofTry ok, q⟩
    | cont =>
      obtain ⟨σ', H', J', q⟩ := hsp
      exact ⟨σ', H', J'.ofTry ok, q⟩
    | ret u =>
      obtain ⟨v, σ', H', J', r, q⟩ := hsp
      exact ⟨v, σ', H', J'.ofTry ok, r, q⟩
end
theorem refs_of : ∀ l : List Value, PySem.W.excTail PySem.HandSPX.veTail l = true → PySem.HandSPX.refsVE l = true := by
  intro l
  induction l with
  | nil => exact fun h => h
  | cons a r ih =>
    intro h
    rcases PySem.W.excTail_cases (a :: r) h with ⟨c, r', q, h'⟩ | q
    · obtain ⟨rfl, rfl⟩ := List.cons.inj q
      exact ih h'
    · rw [q]
      decide +kernel
/-- a class of refusals with a value, as the written part tells of it -/
theorem oex_of {K : PySem.W.Frag} {C : Addr} (q : PySem.W.excInitIn K C PySem.HandSPX.veTail "ValueError.__new__" = true) (hd : PySem.W.hasDictIn K C = true) (sa : PySem.W.findIn K (.ref C) "__setattr__" = some (some (.builtin "object.__setattr__")))
    (sb : PySem.W.subIn K (.ref C) (.type "BaseException") = some true) (ty : PySem.W.typeIn K (.ref C) = some (.type "type")) (kp : PySem.W.keepIn K (.ref C) = true) : OexC K C := by
  refine ⟨?_, sa, sb, ty, kp⟩
  unfold PySem.W.excInitIn at q
  split at q
  · rename_i dd cd sl ho
    split at q
    · rename_i C' bm k0 k1 k2 k3 n k5 hm hs
      simp only [Bool.and_eq_true, beq_iff_eq, Bool.not_eq_true'] at q
      obtain ⟨⟨⟨rfl, rfl⟩, hdel⟩, ht⟩ := q
      have hh : cd.hasDict = true := by
        unfold PySem.W.hasDictIn PySem.W.clsIn at hd
        rw [ho] at hd
        simpa using hd
      obtain ⟨nm, bs, mro, ns, qn, hd', sn, sub, ab, col, del⟩ := cd
      dsimp only at hm hdel hh
      subst hm hdel hh
      have hsl : sl = #[k0, k1, k2, k3, some (.builtin "ValueError.__new__"), k5] := by
        obtain ⟨l⟩ := sl
        simp only at hs
        rw [hs]
      subst hsl
      exact ⟨nm, qn, ns, bs, bm, sn, sub, ab, col, dd, k0, k1, k2, k3, k5, ho, refs_of _ ht⟩
    · cases q
  · cases q
end Fb

/-! Part S6: sum of a tuple of whole numbers. -/
namespace Fb
open PySem PySem.Spec PyProof.Rows L2
section
variable {prog : Program} {w : World} {A : Around} {E : Value → Shared → Prop} {s : Shared} {l : Addr} {xs : Array (Int × Tok)}
theorem sum_intTup {Q : Value → Shared → Prop} (hh : A.handled = none) (hl : s.heap.IsTuple l (intItems xs))
    (h : ∀ h' tk t', (∀ b o, s.heap.get? b = some o → h'.get? b = some o) → Q (.int (preSum (numAt xs) xs.size) t') { s with heap := h', toks := tk }) :
    wpAny (model prog w) A (call (.builtin "sum") [.ref l]) Q E s := by
  have hlt : l < s.heap.objs.size := by obtain ⟨_, e, _⟩ := hl; exact Heap.lt_size e
  refine call_sum_walkG (wpAny_pyIter_tuple hl ?_)
  refine ⟨_, _, _, _, _, _, numAt xs, rfl, Walks.tuple (A := A.in1) hh _ l (Nat.ne_of_lt hlt) (intItems xs), ⟨⟨_, Heap.get?_push_size _ rfl, rfl, rfl⟩, hl.push _⟩, fun b hb => ?_, (fun _ _ => intItems_at), fun h' tk t' hk => ?_⟩
  · show b < (s.heap.push _).objs.size
    rw [Heap.size_push]
    rcases List.mem_cons.mp hb with rfl | hb
    · exact Nat.lt_succ_self _
    · rw [List.mem_singleton.mp hb]
      exact Nat.lt_succ_of_lt hlt
  · have := h h' tk t' fun b o e => hk b o (fun hb => absurd (Heap.lt_size e) ((List.mem_singleton.mp hb) ▸ Nat.lt_irrefl _)) (Heap.get?_push_of_some _ e)
    simpa [intItems] using this
end
def rSumT (K : PySem.W.Frag) : List V → Hp → VK → Prop := fun vs H Q => ∃ (a : Addr) (ns : List Int), vs = [V.ref a] ∧ SqT K H a (ns.map V.int) ∧ Q (.int ns.sum) H
theorem cr_sumT {X : Cx} (hc : X.calm = true) : CallR X (.builtin "sum") (rSumT X.K) := by
  intro pins s σ H vs us Q I r h
  obtain ⟨a, ns, rfl, hs, q⟩ := h
  obtain ⟨its, rv, hl, _⟩ := I.tuple hs
  rw [Vals.ref1 r]
  have hi := rv.ints
  obtain ⟨xs, e⟩ := hi.allInts.items
  have hn : numsOf (intItems xs).toList = ns := by rw [← e]; exact hi.numsOf
  rw [nums_intItems] at hn
  have hl' : s.heap.IsTuple a (intItems xs) := by rw [← e]; exact hl
  refine sum_intTup (I.ok.hd hc) hl' fun h' tk t' hk => ?_
  rw [preSum_eq, List.take_of_length_le (by simp), hn]
  exact ⟨.int _, H, I.kept hk, ⟨_, rfl⟩, q⟩
theorem cr_sumTK {X : Cx} {K : PySem.W.Frag} (hK : X.K = K) (hc : X.calm = true) : CallR X (.builtin "sum") (rSumT K) := hK ▸ cr_sumT hc
end Fb

/-! Part S7: tuples and dicts of the written part; zip of two tuples walked; slices of tuples. -/
namespace Fb
open PySem PySem.Spec PyProof.Rows L2
def SqK (K : PySem.W.Frag) (a : Addr) (xs : List V) : Prop := ∃ (o : Obj) (its : Array Value) (n : Nat), K.lookup a = some o ∧ o.cls = .type "tuple" ∧ o.data = .seq its n ∧ its.size ≤ sizeLine ∧ Vals xs its.toList
theorem SqK.sq {K : PySem.W.Frag} {a : Addr} {xs : List V} {H : Hp} (h : SqK K a xs) : SqT K H a xs := .inr h
theorem walk_zipT {K : PySem.W.Frag} {a b : Addr} {xs ys : List V} {n : Nat} (hn : n = min xs.length ys.length) : Walk (RZ.ItzT K a b) n (fun H => SqT K H a xs ∧ SqT K H b ys) (YPair (fun i => xs[i]?) (fun i => ys[i]?)) := by
  subst hn
  refine ⟨fun i _ hi q => ?_, fun _ q => ⟨xs, ys, q.1, q.2, by omega⟩, fun i H v H' _ q y => ?_⟩
  · have h1 : i < xs.length := by omega
    have h2 : i < ys.length := by omega
    exact ⟨xs, ys, xs[i], ys[i], q.1, q.2, by simp [h1], by simp [h2]⟩
  · obtain ⟨T, x, z, h1, h2, h3, h4, h5⟩ := y
    exact ⟨T, x, z, h1, h2, h3, h4 xs q.1, h5 ys q.2⟩
theorem sl_tupAK {X : Cx} {K : PySem.W.Frag} (hK : X.K = K) : SlR X (rSlA K) := hK ▸ sl_tupA
theorem cut_tail (x : V) (xs : List V) : cutV (x :: xs) (some 1) none = xs := by
  unfold cutV
  have e : HT.sIx (x :: xs).length 0 (some (1 : Int)) = 1 := by
    rw [show (1 : Int) = ((1 : Nat) : Int) from rfl, HT.sIx_nat]
    simp
  rw [e, HT.sIx_none]
  simp
theorem tail_part (x : V) (xs : List V) : ¬ (HT.sIx (x :: xs).length 0 (some (1 : Int)) = 0 ∧ HT.sIx (x :: xs).length (x :: xs).length none = (x :: xs).length) := fun h => by
  have e : HT.sIx (x :: xs).length 0 (some (1 : Int)) = 1 := by
    rw [show (1 : Int) = ((1 : Nat) : Int) from rfl, HT.sIx_nat]
    simp
  rw [e] at h
  exact absurd h.1 (by decide)
theorem cut_tok (xs : List V) (k : Nat) : cutV xs none (some (k : Int)) = xs.take k := by
  unfold cutV
  rw [HT.sIx_none, HT.sIx_nat, List.drop_zero, Nat.sub_zero]
  by_cases h : k ≤ xs.length
  · rw [Nat.min_eq_left h]
  · rw [Nat.min_eq_right (by omega), List.take_of_length_le (Nat.le_refl _), List.take_of_length_le (by omega)]
end Fb

namespace Fb
open PySem PySem.Spec PyProof.Rows L2
def topS (i : Nat) : Stmt := PySem.Challenge.pw_farbetween_k53_how_deep_books_are.main.body.getD i (.Pass ⟨0, 0, 0, 0⟩)
abbrev s_p_is_whole : Stmt := topS 7
theorem sc_p_is_whole : FnScope ["thing"] ["thing"] (defScope s_p_is_whole) := ⟨rfl, rfl, rfl, by decide +kernel, rfl, by decide +kernel, by decide +kernel⟩
abbrev s_p_is_name : Stmt := topS 8
theorem sc_p_is_name : FnScope ["thing", "letter"] ["thing"] (defScope s_p_is_name) := ⟨rfl, rfl, rfl, by decide +kernel, rfl, by decide +kernel, by decide +kernel⟩
abbrev s_p_written : Stmt := topS 11
theorem sc_p_written : FnScope ["number", "piece", "pieces", "rest"] ["number"] (defScope s_p_written) := ⟨rfl, rfl, rfl, by decide +kernel, rfl, by decide +kernel, by decide +kernel⟩
abbrev s_m_Share_init : Stmt := inClass (topS 13) 0
theorem sc_m_Share_init : FnScope ["self", "top", "bottom", "common"] ["self", "top", "bottom"] (defScope s_m_Share_init) := ⟨rfl, rfl, rfl, by decide +kernel, rfl, by decide +kernel, by decide +kernel⟩
abbrev s_m_Share_eq : Stmt := inClass (topS 13) 1
theorem sc_m_Share_eq : FnScope ["self", "other"] ["self", "other"] (defScope s_m_Share_eq) := ⟨rfl, rfl, rfl, by decide +kernel, rfl, by decide +kernel, by decide +kernel⟩
abbrev s_m_Share_str : Stmt := inClass (topS 13) 2
theorem sc_m_Share_str : FnScope ["self"] ["self"] (defScope s_m_Share_str) := ⟨rfl, rfl, rfl, by decide +kernel, rfl, by decide +kernel, by decide +kernel⟩
abbrev s_p_common_part : Stmt := topS 14
theorem sc_p_common_part : FnScope ["one", "other"] ["one", "other"] (defScope s_p_common_part) := ⟨rfl, rfl, rfl, by decide +kernel, rfl, by decide +kernel, by decide +kernel⟩
abbrev s_p_is_such : Stmt := topS 17
theorem sc_p_is_such : FnScope ["thing", "kind", "at"] ["thing", "kind", "at"] (defScope s_p_is_such) := ⟨rfl, rfl, rfl, by decide +kernel, rfl, by decide +kernel, by decide +kernel⟩
abbrev s_p_is_row : Stmt := topS 18
theorem sc_p_is_row : FnScope ["thing", "at", "kinds", "each", "kind"] ["thing", "at"] (defScope s_p_is_row) := ⟨rfl, rfl, rfl, by decide +kernel, rfl, by decide +kernel, by decide +kernel⟩
abbrev s_p_check_book : Stmt := topS 19
theorem sc_p_check_book : FnScope ["thing", "at", "row"] ["thing"] (defScope s_p_check_book) := ⟨rfl, rfl, rfl, by decide +kernel, rfl, by decide +kernel, by decide +kernel⟩
abbrev s_p_depths_of : Stmt := topS 20
theorem sc_p_depths_of : FnScope ["book", "depths", "row", "named", "number", "kind"] ["book"] (defScope s_p_depths_of) := ⟨rfl, rfl, rfl, by decide +kernel, rfl, by decide +kernel, by decide +kernel⟩
abbrev s_p_deep : Stmt := topS 22
theorem sc_p_deep : FnScope ["book"] ["book"] (defScope s_p_deep) := ⟨rfl, rfl, rfl, by decide +kernel, rfl, by decide +kernel, by decide +kernel⟩
abbrev s_l_well : Stmt := topS 24
theorem sc_l_well : FnScope ["_law_cell"] ["_law_cell"] (defScope s_l_well) := ⟨rfl, rfl, rfl, by decide +kernel, rfl, by decide +kernel, by decide +kernel⟩
abbrev s_l_draw : Stmt := topS 25
theorem sc_l_draw : FnScope ["_law_well_here", "_law_many", "_law_digit", "_law_prime", "_law_number"] ["_law_well_here", "_law_many"] (defScope s_l_draw) := ⟨rfl, rfl, rfl, by decide +kernel, rfl, by decide +kernel, by decide +kernel⟩
abbrev s_l_one : Stmt := topS 26
theorem sc_l_one : FnScope ["_law_well_here", "_law_some"] ["_law_well_here", "_law_some"] (defScope s_l_one) := ⟨rfl, rfl, rfl, by decide +kernel, rfl, by decide +kernel, by decide +kernel⟩
abbrev s_l_names : Stmt := topS 27
theorem sc_l_names : FnScope ["_law_well_here", "_law_many", "_law_some", "_law_at", "_law_found", "_law_last", "_law_word", "_law_k"] ["_law_well_here", "_law_many"] (defScope s_l_names) := ⟨rfl, rfl, rfl, by decide +kernel, rfl, by decide +kernel, by decide +kernel⟩
abbrev s_l_low : Stmt := topS 28
theorem sc_l_low : FnScope ["_law_top", "_law_bottom", "_law_one_here", "_law_other"] ["_law_top", "_law_bottom"] (defScope s_l_low) := ⟨rfl, rfl, rfl, by decide +kernel, rfl, by decide +kernel, by decide +kernel⟩
abbrev s_l_share : Stmt := topS 31
theorem sc_l_share : FnScope ["_law_well_here", "_law_bottom"] ["_law_well_here"] (defScope s_l_share) := ⟨rfl, rfl, rfl, by decide +kernel, rfl, by decide +kernel, by decide +kernel⟩
abbrev s_l_row : Stmt := topS 32
theorem sc_l_row : FnScope ["_law_well_here", "_law_signs", "_law_at", "_law_sign", "_law_number", "_law_other", "_law_some"] ["_law_well_here", "_law_signs", "_law_at"] (defScope s_l_row) := ⟨rfl, rfl, rfl, by decide +kernel, rfl, by decide +kernel, by decide +kernel⟩
abbrev s_l_rows : Stmt := topS 33
theorem sc_l_rows : FnScope ["_law_well_here", "_law_signs", "_law_most", "_law_found", "_law_at"] ["_law_well_here", "_law_signs", "_law_most"] (defScope s_l_rows) := ⟨rfl, rfl, rfl, by decide +kernel, rfl, by decide +kernel, by decide +kernel⟩
abbrev s_l_book : Stmt := topS 34
theorem sc_l_book : FnScope ["_law_rows_here", "_law_found", "_law_row_here"] ["_law_rows_here"] (defScope s_l_book) := ⟨rfl, rfl, rfl, by decide +kernel, rfl, by decide +kernel, by decide +kernel⟩
abbrev s_l_depth : Stmt := topS 35
theorem sc_l_depth : FnScope ["_law_rows_here", "_law_found", "_law_row_here", "_law_number"] ["_law_rows_here"] (defScope s_l_depth) := ⟨rfl, rfl, rfl, by decide +kernel, rfl, by decide +kernel, by decide +kernel⟩
abbrev s_l_doubled : Stmt := topS 36
theorem sc_l_doubled : FnScope ["_law_well_here", "_law_rows_here", "_law_many", "_law_found", "_law_k"] ["_law_well_here", "_law_rows_here", "_law_many"] (defScope s_l_doubled) := ⟨rfl, rfl, rfl, by decide +kernel, rfl, by decide +kernel, by decide +kernel⟩
abbrev s_l_heads : Stmt := topS 37
theorem sc_l_heads : FnScope ["_law_rows_here", "_law_row_here"] ["_law_rows_here"] (defScope s_l_heads) := ⟨rfl, rfl, rfl, by decide +kernel, rfl, by decide +kernel, by decide +kernel⟩
abbrev s_law : Stmt := topS 38
theorem sc_law : FnScope ["_law_script", "_law_cell", "_law_well_here", "_law_rows_here", "_law_book_here", "_law_many", "_law_told"] ["_law_script"] (defScope s_law) := ⟨rfl, rfl, rfl, by decide +kernel, rfl, by decide +kernel, by decide +kernel⟩
structure Txt (K : PySem.W.Frag) (mg : Str → Option Value) where
  c_FarError : Addr
  g_FarError : mg "FarError" = some (.ref c_FarError)
  c_NoShare : Addr
  g_NoShare : mg "NoShare" = some (.ref c_NoShare)
  c_NoBook : Addr
  g_NoBook : mg "NoBook" = some (.ref c_NoBook)
  c_Share : Addr
  g_Share : mg "Share" = some (.ref c_Share)
  f_p_is_whole : Addr
  d_p_is_whole : FuncData
  F_p_is_whole : Fun K "is_whole" "is_whole" s_p_is_whole f_p_is_whole d_p_is_whole
  b_p_is_whole : Binds K d_p_is_whole ["thing"] []
  g_p_is_whole : mg "is_whole" = some (.ref f_p_is_whole)
  f_p_is_name : Addr
  d_p_is_name : FuncData
  F_p_is_name : Fun K "is_name" "is_name" s_p_is_name f_p_is_name d_p_is_name
  b_p_is_name : Binds K d_p_is_name ["thing"] []
  g_p_is_name : mg "is_name" = some (.ref f_p_is_name)
  f_p_written : Addr
  d_p_written : FuncData
  F_p_written : Fun K "written" "written" s_p_written f_p_written d_p_written
  b_p_written : Binds K d_p_written ["number"] []
  g_p_written : mg "written" = some (.ref f_p_written)
  f_m_Share_init : Addr
  d_m_Share_init : FuncData
  F_m_Share_init : FunD K "__init__" "Share.__init__" (defArgs s_m_Share_init) (defBody s_m_Share_init) (defScope s_m_Share_init) [.int 1] [] f_m_Share_init d_m_Share_init
  b_m_Share_init : Binds K d_m_Share_init ["self", "top", "bottom"] []
  e_m_Share_init : ∃ ds, Vals [.int 1] ds ∧ Binds K d_m_Share_init ["self", "top", "bottom"] ds
  f_m_Share_eq : Addr
  d_m_Share_eq : FuncData
  F_m_Share_eq : Fun K "__eq__" "Share.__eq__" s_m_Share_eq f_m_Share_eq d_m_Share_eq
  b_m_Share_eq : Binds K d_m_Share_eq ["self", "other"] []
  f_m_Share_str : Addr
  d_m_Share_str : FuncData
  F_m_Share_str : Fun K "__str__" "Share.__str__" s_m_Share_str f_m_Share_str d_m_Share_str
  b_m_Share_str : Binds K d_m_Share_str ["self"] []
  f_p_common_part : Addr
  d_p_common_part : FuncData
  F_p_common_part : Fun K "common_part" "common_part" s_p_common_part f_p_common_part d_p_common_part
  b_p_common_part : Binds K d_p_common_part ["one", "other"] []
  g_p_common_part : mg "common_part" = some (.ref f_p_common_part)
  f_p_is_such : Addr
  d_p_is_such : FuncData
  F_p_is_such : Fun K "is_such" "is_such" s_p_is_such f_p_is_such d_p_is_such
  b_p_is_such : Binds K d_p_is_such ["thing", "kind", "at"] []
  g_p_is_such : mg "is_such" = some (.ref f_p_is_such)
  f_p_is_row : Addr
  d_p_is_row : FuncData
  F_p_is_row : Fun K "is_row" "is_row" s_p_is_row f_p_is_row d_p_is_row
  b_p_is_row : Binds K d_p_is_row ["thing", "at"] []
  g_p_is_row : mg "is_row" = some (.ref f_p_is_row)
  f_p_check_book : Addr
  d_p_check_book : FuncData
  F_p_check_book : Fun K "check_book" "check_book" s_p_check_book f_p_check_book d_p_check_book
  b_p_check_book : Binds K d_p_check_book ["thing"] []
  g_p_check_book : mg "check_book" = some (.ref f_p_check_book)
  f_p_depths_of : Addr
  d_p_depths_of : FuncData
  F_p_depths_of : Fun K "depths_of" "depths_of" s_p_depths_of f_p_depths_of d_p_depths_of
  b_p_depths_of : Binds K d_p_depths_of ["book"] []
  g_p_depths_of : mg "depths_of" = some (.ref f_p_depths_of)
  f_p_deep : Addr
  d_p_deep : FuncData
  F_p_deep : Fun K "deep" "deep" s_p_deep f_p_deep d_p_deep
  b_p_deep : Binds K d_p_deep ["book"] []
  g_p_deep : mg "deep" = some (.ref f_p_deep)
  f_l_well : Addr
  d_l_well : FuncData
  F_l_well : Fun K "_law_well" "_law_well" s_l_well f_l_well d_l_well
  b_l_well : Binds K d_l_well ["_law_cell"] []
  g_l_well : mg "_law_well" = some (.ref f_l_well)
  f_l_draw : Addr
  d_l_draw : FuncData
  F_l_draw : Fun K "_law_draw" "_law_draw" s_l_draw f_l_draw d_l_draw
  b_l_draw : Binds K d_l_draw ["_law_well_here", "_law_many"] []
  g_l_draw : mg "_law_draw" = some (.ref f_l_draw)
  f_l_one : Addr
  d_l_one : FuncData
  F_l_one : Fun K "_law_one" "_law_one" s_l_one f_l_one d_l_one
  b_l_one : Binds K d_l_one ["_law_well_here", "_law_some"] []
  g_l_one : mg "_law_one" = some (.ref f_l_one)
  f_l_names : Addr
  d_l_names : FuncData
  F_l_names : Fun K "_law_names" "_law_names" s_l_names f_l_names d_l_names
  b_l_names : Binds K d_l_names ["_law_well_here", "_law_many"] []
  g_l_names : mg "_law_names" = some (.ref f_l_names)
  f_l_low : Addr
  d_l_low : FuncData
  F_l_low : Fun K "_law_low" "_law_low" s_l_low f_l_low d_l_low
  b_l_low : Binds K d_l_low ["_law_top", "_law_bottom"] []
  g_l_low : mg "_law_low" = some (.ref f_l_low)
  f_l_share : Addr
  d_l_share : FuncData
  F_l_share : Fun K "_law_share" "_law_share" s_l_share f_l_share d_l_share
  b_l_share : Binds K d_l_share ["_law_well_here"] []
  g_l_share : mg "_law_share" = some (.ref f_l_share)
  f_l_row : Addr
  d_l_row : FuncData
  F_l_row : Fun K "_law_row" "_law_row" s_l_row f_l_row d_l_row
  b_l_row : Binds K d_l_row ["_law_well_here", "_law_signs", "_law_at"] []
  g_l_row : mg "_law_row" = some (.ref f_l_row)
  f_l_rows : Addr
  d_l_rows : FuncData
  F_l_rows : Fun K "_law_rows" "_law_rows" s_l_rows f_l_rows d_l_rows
  b_l_rows : Binds K d_l_rows ["_law_well_here", "_law_signs", "_law_most"] []
  g_l_rows : mg "_law_rows" = some (.ref f_l_rows)
  f_l_book : Addr
  d_l_book : FuncData
  F_l_book : Fun K "_law_book" "_law_book" s_l_book f_l_book d_l_book
  b_l_book : Binds K d_l_book ["_law_rows_here"] []
  g_l_book : mg "_law_book" = some (.ref f_l_book)
  f_l_depth : Addr
  d_l_depth : FuncData
  F_l_depth : Fun K "_law_depth" "_law_depth" s_l_depth f_l_depth d_l_depth
  b_l_depth : Binds K d_l_depth ["_law_rows_here"] []
  g_l_depth : mg "_law_depth" = some (.ref f_l_depth)
  f_l_doubled : Addr
  d_l_doubled : FuncData
  F_l_doubled : Fun K "_law_doubled" "_law_doubled" s_l_doubled f_l_doubled d_l_doubled
  b_l_doubled : Binds K d_l_doubled ["_law_well_here", "_law_rows_here", "_law_many"] []
  g_l_doubled : mg "_law_doubled" = some (.ref f_l_doubled)
  f_l_heads : Addr
  d_l_heads : FuncData
  F_l_heads : Fun K "_law_heads" "_law_heads" s_l_heads f_l_heads d_l_heads
  b_l_heads : Binds K d_l_heads ["_law_rows_here"] []
  g_l_heads : mg "_law_heads" = some (.ref f_l_heads)
  f_law : Addr
  d_law : FuncData
  F_law : Fun K "law" "law" s_law f_law d_law
  b_law : Binds K d_law ["_law_script"] []
  g_law : mg "law" = some (.ref f_law)
  cl_Share : Cls K c_Share
  M_Share : Mk K c_Share f_m_Share_init
  ti_Share : TyIns K c_Share
  n_Share_top : NoAttr K c_Share "top"
  n_Share_bottom : NoAttr K c_Share "bottom"
  h_m_Share_eq : Meth K c_Share "__eq__" f_m_Share_eq
  h_m_Share_str : Meth K c_Share "__str__" f_m_Share_str
  ne_Share : PySem.W.findIn K (.ref c_Share) "__ne__" = some (some (.builtin "object.__ne__"))
  nf_Share_int : PySem.W.notFirst K c_Share (.type "int") = true
  nf_Share_str : PySem.W.notFirst K c_Share (.type "str") = true
  nf_Share_NoneType : PySem.W.notFirst K c_Share (.type "NoneType") = true
  nf_Share_list : PySem.W.notFirst K c_Share (.type "list") = true
  nf_Share_tuple : PySem.W.notFirst K c_Share (.type "tuple") = true
  nf_Share_dict : PySem.W.notFirst K c_Share (.type "dict") = true
  nf_Share_bool : PySem.W.notFirst K c_Share (.type "bool") = true
  k_Share : PySem.W.kitOne K (.ref c_Share) (.ref c_Share) = some true
  k_Share_int : PySem.W.kitOne K (.type "int") (.ref c_Share) = some false
  k_Share_str : PySem.W.kitOne K (.type "str") (.ref c_Share) = some false
  k_Share_NoneType : PySem.W.kitOne K (.type "NoneType") (.ref c_Share) = some false
  k_Share_list : PySem.W.kitOne K (.type "list") (.ref c_Share) = some false
  k_Share_tuple : PySem.W.kitOne K (.type "tuple") (.ref c_Share) = some false
  k_Share_dict : PySem.W.kitOne K (.type "dict") (.ref c_Share) = some false
  k_Share_bool : PySem.W.kitOne K (.type "bool") (.ref c_Share) = some false
  u_LETTERS : Value
  g_LETTERS : mg "LETTERS" = some u_LETTERS
  r_LETTERS : RelV (.str "abcdefghijklmnopqrstuvwxyz") u_LETTERS
  u_LONGEST_NAME : Value
  g_LONGEST_NAME : mg "LONGEST_NAME" = some u_LONGEST_NAME
  r_LONGEST_NAME : RelV (.int 8) u_LONGEST_NAME
  u_PIECE_LENGTH : Value
  g_PIECE_LENGTH : mg "PIECE_LENGTH" = some u_PIECE_LENGTH
  r_PIECE_LENGTH : RelV (.int 64) u_PIECE_LENGTH
  prm : Params
  u_FORMS : Addr
  g_FORMS : mg "FORMS" = some (.ref u_FORMS)
  e_FORMS : Array DictEntry
  n_FORMS : Nat
  at_FORMS : K.lookup u_FORMS = some ⟨.type "dict", none, .dict e_FORMS n_FORMS, #[]⟩
  lit_FORMS : PySem.W.KeysLit prm e_FORMS.toList
  low_FORMS : (u_FORMS == sysModules) = false
  t_FORMS_0 : Addr
  k_FORMS_0 : PySem.W.nsIn K u_FORMS "one" = some (some (.ref t_FORMS_0))
  v_FORMS_0 : SqK K t_FORMS_0 []
  t_FORMS_1 : Addr
  k_FORMS_1 : PySem.W.nsIn K u_FORMS "can" = some (some (.ref t_FORMS_1))
  v_FORMS_1 : SqK K t_FORMS_1 [.str "sign"]
  t_FORMS_2 : Addr
  k_FORMS_2 : PySem.W.nsIn K u_FORMS "on" = some (some (.ref t_FORMS_2))
  v_FORMS_2 : SqK K t_FORMS_2 [.str "sign", .str "number"]
  t_FORMS_3 : Addr
  k_FORMS_3 : PySem.W.nsIn K u_FORMS "not" = some (some (.ref t_FORMS_3))
  v_FORMS_3 : SqK K t_FORMS_3 [.str "number"]
  t_FORMS_4 : Addr
  k_FORMS_4 : PySem.W.nsIn K u_FORMS "less" = some (some (.ref t_FORMS_4))
  v_FORMS_4 : SqK K t_FORMS_4 [.str "number", .str "share"]
  t_FORMS_5 : Addr
  k_FORMS_5 : PySem.W.nsIn K u_FORMS "both" = some (some (.ref t_FORMS_5))
  v_FORMS_5 : SqK K t_FORMS_5 [.str "number", .str "number"]
  t_FORMS_6 : Addr
  k_FORMS_6 : PySem.W.nsIn K u_FORMS "either" = some (some (.ref t_FORMS_6))
  v_FORMS_6 : SqK K t_FORMS_6 [.str "number", .str "number"]
  z_isinstance : mg "isinstance" = none
  z_int : mg "int" = none
  z_bool : mg "bool" = none
  z_all : mg "all" = none
  z_str : mg "str" = none
  z_len : mg "len" = none
  z_divmod : mg "divmod" = none
  z_abs : mg "abs" = none
  z_tuple : mg "tuple" = none
  z_zip : mg "zip" = none
  z_list : mg "list" = none
  z_enumerate : mg "enumerate" = none
  z_max : mg "max" = none
  z_range : mg "range" = none
end Fb

namespace Fb
open PySem PySem.Spec PyProof.Rows L2
section
variable {P : Program} {w : World} {K : PySem.W.Frag} {mg : Str → Option Value} {base : Heap}
/-! ### is_whole, of whole numbers -/
def spWhole : Sp := fun vs H Q _ => ∃ i : Int, vs = [.int i] ∧ Q (.bl true) H
theorem ok_p_is_whole (T : Txt K mg) : FnOk P w K mg base CX0 1 T.f_p_is_whole T.d_p_is_whole ["thing"] spWhole := by
  refine T.F_p_is_whole.ok sc_p_is_whole (fun vs H Q E h => ?_) (fun cdv A outer s H vs Q E hr h => ?_)
  · obtain ⟨i, rfl, _⟩ := h
    rfl
  · obtain ⟨i, rfl, q⟩ := h
    refine ⟨_, (pss_one (ps_ret (pe_and (pe_callB call_isi (by rfl) T.z_isinstance (by decide +kernel) (pa_cons (pv 0) (pa_cons (pe_bltn (v := .ty "int") (by rfl) T.z_int (by decide +kernel) rfl) pa_nil))) (pe_one (pe_not (pe_callB call_isi (by rfl) T.z_isinstance (by decide +kernel) (pa_cons (pv 0) (pa_cons (pe_bltn (v := .ty "bool") (by rfl) T.z_bool (by decide +kernel) rfl) pa_nil)))))))), ?_⟩
    refine ⟨_, rfl, _, _, _, _, true, rfl, .ty _, .base (.int i), kit_ty (by decide +kernel), true, rfl, ?_⟩
    refine iteT ?_
    exact ⟨_, rfl, _, _, _, _, false, rfl, .ty _, .base (.int i), kit_ty (by decide +kernel), false, rfl, q⟩
/-! ### common_part -/
def spGcd : Sp := fun vs H Q _ => ∃ a b : Int, vs = [.int a, .int b] ∧ Q (.int (Int.gcd a b : Int)) H
theorem ok_p_common_part (T : Txt K mg) : FnOk P w K mg base CX0 1 T.f_p_common_part T.d_p_common_part ["one", "other"] spGcd := by
  refine T.F_p_common_part.ok sc_p_common_part (fun vs H Q E h => ?_) (fun cdv A outer s H vs Q E hr h => ?_)
  · obtain ⟨a, b, rfl, _⟩ := h
    rfl
  · obtain ⟨a, b, rfl, q⟩ := h
    refine ⟨_, (pss_cons (ps_while PassesOwn.never (pt_cmpR op_ne (pv 1) pe_int (nomark _))
  (pss_one (ps_par (i := 0) (j := 1) (by rfl) sc_p_common_part.nd rfl rfl (by decide) rfl rfl (pa_cons (pv 1) (pa_cons (pe_op op_modN (pv 0) (pv 1)) pa_nil)) (by rfl))))
 (pss_one (ps_ret (pe_callB call_abs (by rfl) T.z_abs (by decide +kernel) (pa_cons (pv 0) pa_nil))))), ?_⟩
    refine ⟨fun m σ H' => ∃ x y : Int, σ = [some (.int x), some (.int y)] ∧ m = y.natAbs ∧ Int.gcd x y = Int.gcd a b ∧ H' = H, ⟨_, a, b, rfl, rfl, rfl, rfl⟩, fun m σ H' hW => ?_⟩
    obtain ⟨x, y, rfl, rfl, hg, rfl⟩ := hW
    refine ⟨_, rfl, rfl, _, rfl, ?_⟩
    by_cases hy : y = 0
    · subst hy
      refine iteF ?_
      refine ⟨_, rfl, x, rfl, ?_⟩
      have e : (if x < 0 then -x else x) = (Int.gcd a b : Int) := by
        rw [← hg, Int.gcd_zero_right]
        split <;> omega
      rw [e]
      exact q
    · have ne : (!decide (V.int y = V.int 0)) = true := by
        rw [decide_eq_false (fun z => hy (V.int.inj z))]
        rfl
      rw [ne]
      refine iteT ?_
      refine ⟨fun σ' H'' => σ' = [some (.int y), some (.int (x.fmod y))] ∧ H'' = H', fun σ' H'' h => ?_, ?_⟩
      · obtain ⟨rfl, rfl⟩ := h
        exact ⟨_, fmod_lt x y hy, y, _, rfl, rfl, by rw [gcd_step, hg], rfl⟩
      · exact ⟨_, rfl, _, rfl, _, rfl, _, _, rfl, rfl, hy, _, _, rfl, rfl, rfl⟩
theorem log2_mono {a b : Nat} (h : a ≤ b) : a.log2 ≤ b.log2 := by
  by_cases ha : a = 0
  · subst ha
    simp
  · have hb : b ≠ 0 := by omega
    rw [Nat.le_log2 hb]
    exact Nat.le_trans (Nat.log2_self_le ha) h
theorem nat_abs {n m : Nat} (h : n < m) : (n : Int).natAbs < m := h
end

end Fb

namespace Fb
open PySem PySem.Spec PyProof.Rows L2
section
variable {P : Program} {w : World} {K : PySem.W.Frag} {mg : Str → Option Value} {base : Heap}
/-! ### Share(top, bottom) -/
def spShare (C : Addr) : Sp := fun vs H Q _ => ∃ (p dx : Addr) (t b : Int), vs = [.ref p, .int t, .int b] ∧ H p = some (.ins C dx []) ∧ b ≠ 0 ∧ b.natAbs.log2 < 9000 ∧
  ∀ H', (∀ a o, H a = some o → a ≠ p → H' a = some o) → H' p = some (.ins C dx (flds (Rat.divInt t b))) → Q .non H'
theorem ok_m_Share_init (T : Txt K mg) : FnOk P w K mg base CX0 2 T.f_m_Share_init T.d_m_Share_init ["self", "top", "bottom"] (spShare T.c_Share) := by
  refine T.F_m_Share_init.ok sc_m_Share_init (fun vs H Q E h => ?_) (fun cdv A outer s H vs Q E hr h => ?_)
  · obtain ⟨p, dx, t, b, rfl, _⟩ := h
    rfl
  · obtain ⟨p, dx, t, b, rfl, hp, hb, hl, q⟩ := h
    refine ⟨_, PSs.nox (pss_cons (ps_if (PW.pt (pw_or (pt_not (pt_val (pe_call (ok_p_is_whole T) (hr.mono (by decide)) (by rfl) T.g_p_is_whole T.F_p_is_whole.kp T.b_p_is_whole .nil pass0 (pa_cons (pv 1) pa_nil)))) (pw_or (pt_not (pt_val (pe_call (ok_p_is_whole T) (hr.mono (by decide)) (by rfl) T.g_p_is_whole T.F_p_is_whole.kp T.b_p_is_whole .nil pass0 (pa_cons (pv 2) pa_nil)))) (pw_or1 (pt_cmpR op_eq (pv 2) pe_int (nomark _))))))
  (pss_one ps_never)
  pss_nil)
 (pss_cons (ps_set (i := 3) sc_m_Share_init.nd rfl (.inl rfl) (pe_call (ok_p_common_part T) (hr.mono (by decide)) (by rfl) T.g_p_common_part T.F_p_common_part.kp T.b_p_common_part .nil pass0 (pa_cons (pv 1) (pa_cons (pv 2) pa_nil))))
 (pss_cons (ps_if (pt_cmpR op_lt (pv 2) pe_int (nomark _))
  (pss_one (ps_set (i := 3) sc_m_Share_init.nd rfl (.inl rfl) (pe_un un_neg (pv 3))))
  pss_nil)
 (pss_cons (ps_fld (pv 0) (pe_op op_fdivZ (pv 1) (pv 3)) rfl)
 (pss_one (ps_fld (pv 0) (pe_op op_fdivZ (pv 2) (pv 3)) rfl)))))), ?_⟩
    -- the test is false
    refine ⟨_, rfl, t, rfl, true, rfl, ?_⟩
    refine iteF ?_
    refine ⟨_, rfl, b, rfl, true, rfl, ?_⟩
    refine iteF ?_
    refine ⟨_, rfl, rfl, _, rfl, ?_⟩
    rw [decide_eq_false (fun z => hb (V.int.inj z))]
    refine iteF ?_
    -- common
    refine ⟨_, rfl, _, rfl, t, b, rfl, ?_⟩
    have fin : ∀ (c : Int), c = cut t b → (sFld K (tVar 0) (tOp (rI CDivZ fun i j => .int (i.fdiv j)) (tVar 1) (tVar 3)) "top") { nx := (sFld K (tVar 0) (tOp (rI CDivZ fun i j => .int (i.fdiv j)) (tVar 2) (tVar 3)) "bottom") { nx := fun _ H' => Q .non H', rt := Q }, rt := Q } [some (.ref p), some (.int t), some (.int b), some (.int c)] H := by
      intro c hc
      subst hc
      have hd : ∀ i, CDivZ i (cut t b) := fun _ => ⟨cut_ne hb, Nat.lt_of_le_of_lt (log2_mono (cut_le hb)) hl⟩
      refine ⟨_, rfl, _, rfl, _, _, rfl, rfl, hd _, _, rfl, p, T.c_Share, dx, [], rfl, hp, T.cl_Share, T.n_Share_top, (by show 0 < 1000; decide), ?_⟩
      refine ⟨_, rfl, _, rfl, _, _, rfl, rfl, hd _, _, rfl, p, T.c_Share, dx, _, rfl, upd_same, T.cl_Share, T.n_Share_bottom, (by show 1 < 1000; decide), ?_⟩
      refine q _ (fun a o e ne => ?_) ?_
      · rw [upd_ne ne, upd_ne ne]
        exact e
      · dsimp only
        rw [upd_same, cut_top hb, cut_bottom hb]
        rfl
    refine ⟨_, rfl, _, _, rfl, rfl, _, rfl, ite2 (fun h => ?_) (fun h => ?_)⟩
    · have h' : b < 0 := of_decide_eq_true h
      refine ⟨_, rfl, _, rfl, ?_⟩
      exact fin _ (by unfold cut; rw [if_pos h'])
    · have h' : ¬ b < 0 := fun z => h (decide_eq_true z)
      exact fin _ (by unfold cut; rw [if_neg h'])
/-- Share(t, b) as its caller sees it -/
theorem mk_share {C : Addr} {H : Hp} {t b : Int} {Q : Addr → Hp → Prop} {E : XK} (hb : b ≠ 0) (hl : b.natAbs.log2 < 9000) (q : ∀ H' r, Same H H' → IsShare C H' (.ref r) (Rat.divInt t b) → Q r H') :
    ∀ x dx, H x = none → H dx = none → dx ≠ x → spShare C (.ref x :: ([.int t, .int b] ++ [])) (upd (upd H dx (.own x)) x (.ins C dx [])) (fun v H2 => v = .non ∧ Q x H2) E := by
  intro x dx nx ndx ne
  refine ⟨x, dx, t, b, rfl, upd_same, hb, hl, fun H' k e => ⟨rfl, q H' x (fun a o ea => ?_) ⟨x, dx, rfl, e⟩⟩⟩
  have h1 : a ≠ x := ne_of_none ea nx
  refine k a o ?_ h1
  rw [upd_ne h1, upd_ne (ne_of_none ea ndx)]
  exact ea
end

end Fb

namespace Fb
open PySem PySem.Spec PyProof.Rows L2
section
variable {P : Program} {w : World} {K : PySem.W.Frag} {mg : Str → Option Value} {base : Heap}
/-! ### the class's own == -/
def spEq (K : PySem.W.Frag) (C : Addr) : Sp := fun vs H Q _ => ∃ (v u : V) (x : Rat), vs = [v, u] ∧ IsShare C H v x ∧
  ((∃ y : Rat, IsShare C H u y ∧ Q (.bl (decide (x = y))) H) ∨ ∃ t, TyX K H u t ∧ PySem.W.kitOne K t (.ref C) = some false ∧ Q (.bl false) H)
theorem tyShare (T : Txt K mg) {H : Hp} {p dx : Addr} {fs : List (Str × V)} (h : H p = some (.ins T.c_Share dx fs)) : TyX K H (.ref p) (.ref T.c_Share) :=
  .base (.ins h T.cl_Share T.ti_Share.ha T.ti_Share.hn T.ti_Share.htk T.ti_Share.hm)
theorem ok_m_Share_eq (T : Txt K mg) : FnOk P w K mg base CX0 1 T.f_m_Share_eq T.d_m_Share_eq ["self", "other"] (spEq K T.c_Share) := by
  refine T.F_m_Share_eq.ok sc_m_Share_eq (fun vs H Q E h => ?_) (fun cdv A outer s H vs Q E hr h => ?_)
  · obtain ⟨v, u, x, rfl, _⟩ := h
    rfl
  · obtain ⟨v, u, x, rfl, ⟨p, dx, rfl, hx⟩, h⟩ := h
    refine ⟨_, (pss_one (ps_ret (pe_and (pe_callB call_isi (by rfl) T.z_isinstance (by decide +kernel) (pa_cons (pv 1) (pa_cons (pe_glob (v := .ref T.c_Share) (by rfl) T.g_Share rfl) pa_nil))) (pe_and (pe_cmpR op_eq (pe_fld (pv 0) rfl) (pe_fld (pv 1) rfl) (nomark _)) (pe_one (pe_cmpR op_eq (pe_fld (pv 0) rfl) (pe_fld (pv 1) rfl) (nomark _))))))), ?_⟩
    rcases h with ⟨y, ⟨p', dx', rfl, hy⟩, q⟩ | ⟨t, ty, kt, q⟩
    · refine ⟨_, rfl, _, _, _, _, true, rfl, .own _, tyShare T hy, T.k_Share, true, rfl, iteT ?_⟩
      refine ⟨_, rfl, _, _, _, _, _, rfl, hx, T.cl_Share, T.n_Share_top, flds_top _, _, rfl, _, _, _, _, _, rfl, hy, T.cl_Share, T.n_Share_top, flds_top _, rfl, _, rfl, ?_⟩
      by_cases h1 : x.num = y.num
      · rw [h1, decide_eq_true rfl]
        refine iteT ?_
        refine ⟨_, rfl, _, _, _, _, _, rfl, hx, T.cl_Share, T.n_Share_bottom, flds_bottom _, _, rfl, _, _, _, _, _, rfl, hy, T.cl_Share, T.n_Share_bottom, flds_bottom _, rfl, ?_⟩
        have e : decide (V.int (x.den : Int) = V.int (y.den : Int)) = decide (x = y) := by
          refine decide_eq_decide.mpr ⟨fun z => ?_, fun z => by rw [z]⟩
          have z' : (x.den : Int) = (y.den : Int) := V.int.inj z
          exact Rat.ext h1 (by omega)
        rw [e]
        exact q
      · rw [decide_eq_false (fun z => h1 (V.int.inj z))]
        refine iteF ?_
        have e : decide (x = y) = false := decide_eq_false fun z => h1 (by rw [z])
        rw [e] at q
        exact q
    · exact ⟨_, rfl, _, _, _, _, false, rfl, .own _, ty, kt, false, rfl, iteF q⟩
/-- == or != of two shares -/
theorem eqS (T : Txt K mg) {H : Hp} {v u : V} {x y : Rat} {g : Bool → Bool} {Q : VK} (hx : IsShare T.c_Share H v x) (hy : IsShare T.c_Share H u y) (q : Q (.bl (g (decide (x = y)))) H) : rOwn2 K T.c_Share (spEq K T.c_Share) g v u H Q := by
  obtain ⟨p, dx, rfl, h⟩ := id hx
  obtain ⟨p', dx', rfl, h'⟩ := id hy
  exact ⟨p, dx, _, _, rfl, h, tyShare T h', by simp [PySem.W.notFirst], _, _, x, rfl, hx, .inl ⟨y, hy, _, rfl, q⟩⟩
/-- of a share and what is none -/
theorem eqN (T : Txt K mg) {H : Hp} {v u : V} {x : Rat} {t : Value} {g : Bool → Bool} {Q : VK} (hx : IsShare T.c_Share H v x) (ty : TyX K H u t) (nf : PySem.W.notFirst K T.c_Share t = true) (kt : PySem.W.kitOne K t (.ref T.c_Share) = some false) (q : Q (.bl (g false)) H) :
    rOwn2 K T.c_Share (spEq K T.c_Share) g v u H Q := by
  obtain ⟨p, dx, rfl, h⟩ := id hx
  exact ⟨p, dx, _, _, rfl, h, ty, nf, _, _, x, rfl, hx, .inr ⟨t, ty, kt, _, rfl, q⟩⟩
end

end Fb

namespace Fb
open PySem PySem.Spec PyProof.Rows L2
section
variable {P : Program} {w : World} {K : PySem.W.Frag} {mg : Str → Option Value} {base : Heap}
/-! ### the law's well -/
def spWell : Sp := fun vs H Q _ => ∃ c : Int, vs = [.int c] ∧ ∀ a H', H a = none → Same H (hid a H') → WellAt H' a 1099511627776 → Q (.ref a) H'
theorem ok_l_well (T : Txt K mg) : FnOk P w K mg base CX0 1 T.f_l_well T.d_l_well ["_law_cell"] spWell := by
  refine T.F_l_well.ok sc_l_well (fun vs H Q E h => ?_) (fun cdv A outer s H vs Q E hr h => ?_)
  · obtain ⟨c, rfl, _⟩ := h
    rfl
  · obtain ⟨c, rfl, q⟩ := h
    refine ⟨_, (pss_one (ps_ret (pe_lst (pa_cons (pe_op op_mul (pv 0) (pe_callTy call_int1 (by rfl) T.z_int (by decide +kernel) (pa_cons (pe_cmpR op_ge (pv 0) (pe_op op_pow pe_int pe_int) (nomark _)) pa_nil))) (pa_cons (pe_op op_mod (pv 0) pe_int) (pa_cons pe_int pa_nil)))))), ?_⟩
    refine ⟨_, rfl, _, rfl, _, _, rfl, rfl, ⟨by decide, by decide, by decide⟩, _, _, rfl, rfl, .inr ⟨_, rfl, _, _, rfl, rfl, ?_, _, rfl, _, _, rfl, rfl, (by show (0 : Int) < 2147483647; decide), ?_⟩⟩
    · right
      split <;> decide
    · refine ⟨by show 3 ≤ sizeLine; decide, fun p np => ?_⟩
      refine q p _ np (fun b o e => ?_) ⟨_, _, _, upd_same, Int.emod_nonneg _ (by decide), Int.emod_lt_of_pos _ (by decide), by decide, by decide⟩
      rw [hid_upd, hid_ne (ne_of_none e np)]
      exact e
def spDraw : Sp := fun vs H Q _ => ∃ (a : Addr) (m : Int) (n : Nat), vs = [.ref a, .int m] ∧ WellAt H a (n + 1) ∧ 0 < m ∧ m.natAbs.log2 < 9000 ∧
  ∀ d H', 0 ≤ d → d < m → Same (hid a H) (hid a H') → WellAt H' a n → Q (.int d) H'
theorem ok_l_draw (T : Txt K mg) : FnOk P w K mg base CX0 1 T.f_l_draw T.d_l_draw ["_law_well_here", "_law_many"] spDraw := by
  refine T.F_l_draw.ok sc_l_draw (fun vs H Q E h => ?_) (fun cdv A outer s H vs Q E hr h => ?_)
  · obtain ⟨a, m, n, rfl, _⟩ := h
    rfl
  · obtain ⟨a, m, n, rfl, ⟨w0, w1, w2, hw, b1, b2, b3, b4⟩, m0, ml, q⟩ := h
    refine ⟨_, (pss_cons (ps_if (pt_cmpR op_gt (pe_ix ix_list (pv 0) pe_int (fun _ _ => rfl)) pe_int (nomark _))
  (pss_cons (ps_set (i := 2) sc_l_draw.nd rfl (.inl rfl) (pe_op op_mod (pe_ix ix_list (pv 0) pe_int (fun _ _ => rfl)) (pv 1)))
 (pss_cons (ps_asg (pe_op op_fdivW (pe_ix ix_list (pv 0) pe_int (fun _ _ => rfl)) (pv 1)) (pg_sub (pv 0) pe_int set_list))
 (pss_one (ps_ret (pv 2)))))
  pss_nil)
 (pss_cons (ps_asg (pe_op op_add (pe_ix ix_list (pv 0) pe_int (fun _ _ => rfl)) pe_int) (pg_sub (pv 0) pe_int set_list))
 (pss_cons (ps_set (i := 3) sc_l_draw.nd rfl (.inl rfl) (pe_ix ix_list (pe_lst (pa_cons pe_int (pa_cons pe_int (pa_cons pe_int (pa_cons pe_int (pa_cons pe_int (pa_cons pe_int (pa_cons pe_int pa_nil)))))))) (pe_op op_mod (pe_ix ix_list (pv 0) pe_int (fun _ _ => rfl)) pe_int) (fun _ _ => rfl)))
 (pss_cons (ps_set (i := 4) sc_l_draw.nd rfl (.inl rfl) (pe_op op_mod (pe_op op_pow (pe_op op_add (pe_op op_add (pe_ix ix_list (pv 0) pe_int (fun _ _ => rfl)) (pe_op op_mul pe_int (pe_ix ix_list (pv 0) pe_int (fun _ _ => rfl)))) pe_int) pe_int) (pv 3)))
 (pss_cons (ps_set (i := 4) sc_l_draw.nd rfl (.inl rfl) (pe_op op_mod (pe_op op_mul (pe_op op_add (pv 4) (pe_ix ix_list (pv 0) pe_int (fun _ _ => rfl))) (pe_op op_add (pe_op op_fdiv (pv 4) pe_int) pe_int)) (pv 3)))
 (pss_one (ps_ret (pe_op op_mod (pe_op op_fdiv (pv 4) pe_int) (pv 1))))))))), ?_⟩
    refine ⟨_, rfl, a, _, _, _, rfl, rfl, SqL.of hw, atI_nat (j := 0) rfl, _, _, rfl, rfl, _, rfl, ite2 (fun h => ?_) (fun h => ?_)⟩
    · refine ⟨_, rfl, a, _, _, _, rfl, rfl, SqL.of hw, atI_nat (j := 0) rfl, _, rfl, _, _, rfl, rfl, m0, ?_⟩
      refine ⟨_, rfl, a, _, _, _, rfl, rfl, SqL.of hw, atI_nat (j := 0) rfl, _, rfl, _, _, rfl, rfl, ⟨m0, ml⟩, _, rfl, a, _, _, 0, rfl, rfl, hw, rfl, ?_⟩
      refine ⟨_, rfl, ?_⟩
      refine q _ _ (Int.emod_nonneg _ (by omega)) (Int.emod_lt_of_pos _ m0) ?_ ⟨_, _, _, upd_same, b1, b2, b3, by omega⟩
      rw [hid_upd]
      exact Same.refl _
    · refine ⟨_, rfl, a, _, _, _, rfl, rfl, SqL.of hw, atI_nat (j := 2) rfl, _, _, rfl, rfl, _, rfl, a, _, _, 2, rfl, rfl, hw, rfl, ?_⟩
      have hw2 : (upd H a (.lst [.int w0, .int w1, .int (w2 + 1)])) a = some (.lst [.int w0, .int w1, .int (w2 + 1)]) := upd_same
      refine ⟨by show 7 ≤ sizeLine; decide, fun p np => ?_⟩
      have npa : p ≠ a := fun z => by
        rw [z, upd_same] at np
        cases np
      have hw3 : (upd (upd H a (.lst [.int w0, .int w1, .int (w2 + 1)])) p (.lst [V.int 2147483647, V.int 2147483629, V.int 2147483587, V.int 2147483579, V.int 2147483563, V.int 2147483549, V.int 2147483543])) a = some (.lst [.int w0, .int w1, .int (w2 + 1)]) := by
        rw [upd_ne npa.symm]
        exact upd_same
      obtain ⟨pr, hpr, p0, p1⟩ := primes7 (k := (w2 + 1) % 7) (Int.emod_nonneg _ (by decide)) (Int.emod_lt_of_pos _ (by decide))
      refine ⟨_, rfl, a, _, _, _, rfl, rfl, SqL.of hw3, atI_nat (j := 2) rfl, _, _, rfl, rfl, (by show (0 : Int) < 7; decide), p, _, _, _, rfl, rfl, sqL_new, hpr, ?_⟩
      refine ⟨_, rfl, a, _, _, _, rfl, rfl, SqL.of hw3, atI_nat (j := 1) rfl, _, rfl, a, _, _, _, rfl, rfl, SqL.of hw3, atI_nat (j := 2) rfl, _, _, rfl, rfl, .inl ⟨by decide, by decide⟩, _, _, rfl, rfl, _, _, rfl, rfl, _, _, rfl, rfl, ?_, _, rfl, _, _, rfl, rfl, p0, ?_⟩
      · exact pow_small (by omega) (by omega)
      · generalize hx : (w1 + 7919 * (w2 + 1) + 1) ^ (5 : Int).toNat % pr = x
        have x0 : 0 ≤ x := by
          rw [← hx]
          exact Int.emod_nonneg _ (by omega)
        have x1 : x < pr := by
          rw [← hx]
          exact Int.emod_lt_of_pos _ p0
        refine ⟨_, rfl, _, rfl, a, _, _, _, rfl, rfl, SqL.of hw3, atI_nat (j := 2) rfl, _, _, rfl, rfl, _, rfl, _, _, rfl, rfl, ⟨by decide, by decide⟩, _, _, rfl, rfl, _, _, rfl, rfl, .inl ⟨by omega, by omega⟩, _, rfl, _, _, rfl, rfl, p0, ?_⟩
        refine ⟨_, rfl, _, _, rfl, rfl, ⟨by decide, by decide⟩, _, rfl, _, _, rfl, rfl, m0, ?_⟩
        refine q _ _ (Int.emod_nonneg _ (by omega)) (Int.emod_lt_of_pos _ m0) ?_ ⟨_, _, _, hw3, b1, b2, by omega, by omega⟩
        rw [hid_updN npa, hid_upd]
        refine same_upd ?_
        rw [hid_ne npa]
        rw [upd_ne npa] at np
        exact np
def spOne (K : PySem.W.Frag) : Sp := fun vs H Q _ => ∃ (a p : Addr) (xs : List V) (n : Nat), vs = [.ref a, .ref p] ∧ WellAt H a (n + 1) ∧ SqL K (hid a H) p xs ∧ 0 < xs.length ∧ xs.length ≤ 1000 ∧
  ∀ (i : Nat) x H', xs[i]? = some x → Same (hid a H) (hid a H') → WellAt H' a n → Q x H'
theorem log_small {m : Nat} (h : m ≤ 1000) : ((m : Int)).natAbs.log2 < 9000 := by
  have h1 : ((m : Int)).natAbs.log2 ≤ (1000 : Nat).log2 := log2_mono (by omega)
  have h2 : (1000 : Nat).log2 < 9000 := by decide
  omega
theorem ok_l_one (T : Txt K mg) : FnOk P w K mg base CX0 2 T.f_l_one T.d_l_one ["_law_well_here", "_law_some"] (spOne K) := by
  refine T.F_l_one.ok sc_l_one (fun vs H Q E h => ?_) (fun cdv A outer s H vs Q E hr h => ?_)
  · obtain ⟨a, p, xs, n, rfl, _⟩ := h
    rfl
  · obtain ⟨a, p, xs, n, rfl, hw, hS, l0, l1, q⟩ := h
    refine ⟨_, (pss_one (ps_ret (pe_ix ix_list (pv 1) (pe_call (ok_l_draw T) (hr.mono (by decide)) (by rfl) T.g_l_draw T.F_l_draw.kp T.b_l_draw .nil pass0 (pa_cons (pv 0) (pa_cons (pe_callB call_len_seq (by rfl) T.z_len (by decide +kernel) (pa_cons (pv 1) pa_nil)) pa_nil))) (fun _ _ => rfl)))), ?_⟩
    refine ⟨_, rfl, _, rfl, _, rfl, p, xs, rfl, .inl (hid_same.seq hS), a, _, n, rfl, hw, by omega, log_small l1, fun d H' d0 d1 s1 w1 => ?_⟩
    obtain ⟨x, e1, e2⟩ := atI_get d0 d1
    exact ⟨p, xs, d, x, rfl, rfl, (s1.trans hid_same).seq hS, e1, q _ x H' e2 s1 w1⟩
end

end Fb

namespace Fb
open PySem PySem.Spec PyProof.Rows L2
section
variable {P : Program} {w : World} {K : PySem.W.Frag} {mg : Str → Option Value} {base : Heap}
/-! ### names -/
def letters : List Nat := ("abcdefghijklmnopqrstuvwxyz" : Str).cps.toList
structure NmOk (x : Str) : Prop where
  l1 : 1 ≤ x.length
  l8 : x.length ≤ 8
  all : ∀ c ∈ x.cps.toList, c ∈ letters
def spName : Sp := fun vs H Q _ => ∃ x : Str, vs = [.str x] ∧ NmOk x ∧ ∀ H', Same H H' → Q (.bl true) H'
theorem ok_p_is_name (T : Txt K mg) : FnOk P w K mg base CX0 1 T.f_p_is_name T.d_p_is_name ["thing"] spName := by
  refine T.F_p_is_name.ok sc_p_is_name (fun vs H Q E h => ?_) (fun cdv A outer s H vs Q E hr h => ?_)
  · obtain ⟨x, rfl, _⟩ := h
    rfl
  · obtain ⟨x, rfl, ok, q⟩ := h
    refine ⟨_, (pss_cons (ps_if (PW.pt (pw_or (pt_not (pt_val (pe_callB call_isi (by rfl) T.z_isinstance (by decide +kernel) (pa_cons (pv 0) (pa_cons (pe_bltn (v := .ty "str") (by rfl) T.z_str (by decide +kernel) rfl) pa_nil))))) (pw_or1 (pt_not (pt_chain op_le op_le pe_int (pe_callB call_len_str (by rfl) T.z_len (by decide +kernel) (pa_cons (pv 0) pa_nil)) (pe_glob (by rfl) T.g_LONGEST_NAME T.r_LONGEST_NAME))))))
  (pss_one (ps_ret pe_bl))
  pss_nil)
 (pss_one (ps_ret (pe_callB (cr_all rfl) (by rfl) T.z_all (by decide +kernel) (pa_cons (pe_lc (own := [("letter", 1)]) (g := (gName 1)) (tt := tYes) (by rfl) sc_p_is_name.nd (pi_str (pv 0)) (blkOk_by (own := [("letter", 1)]) (N := ["thing", "letter"]) (sc := defScope s_p_is_name) (by decide +kernel)) (fun _ _ _ _ _ => by exact (pg_name (i := 1) sc_p_is_name.nd rfl (.inl rfl))) (fun _ _ _ _ _ => by exact pts_nil) (fun _ _ _ _ _ => by exact (pe_cmpR op_in_sign (pv 1) (pe_glob (by rfl) T.g_LETTERS T.r_LETTERS) (by with_unfolding_all rfl)))) pa_nil))))), ?_⟩
    have l8 := ok.l8
    have l1 := ok.l1
    refine ⟨_, rfl, _, _, _, _, true, rfl, .ty _, .base (.str x), kit_ty (by decide +kernel), true, rfl, iteF ?_⟩
    refine ⟨_, rfl, x, rfl, Nat.le_of_lt (small1000 (by omega)), _, _, rfl, rfl, true, ?_, iteT ?_⟩
    · exact congrArg V.bl (decide_eq_true (by omega))
    refine ⟨_, _, rfl, rfl, true, ?_, iteF ?_⟩
    · exact congrArg V.bl (decide_eq_true (by omega))
    have hz : x.cps.size ≤ 8 := l8
    refine ⟨_, rfl, x, rfl, fun D nD => lc_allW (walk_str (z := x)) (fun _ y _ => y = .bl true) (fun _ _ _ _ _ h => h) nD (fun _ _ => trivial) (by omega) (fun i v H2 H3 k hi s2 eD y hk => ?_) (fun H2 ys s2 e l r => ?_)⟩
    · obtain ⟨rfl, c, hc, rfl⟩ := y
      refine ⟨rfl, _, rfl, c, _, rfl, rfl, hk _ _ (Same.refl _) (congrArg V.bl (decide_eq_true ?_))⟩
      exact ok.all c (by rw [← Array.getElem?_toList] at hc; exact List.mem_of_getElem? hc)
    · have ey : ys = (List.replicate ys.length true).map V.bl := by
        refine List.ext_getElem? fun i => ?_
        by_cases hi : i < ys.length
        · rw [List.getElem?_eq_getElem hi, r i _ (List.getElem?_eq_getElem hi), List.getElem?_map, List.getElem?_replicate, if_pos hi]
          rfl
        · rw [List.getElem?_eq_none (by omega), List.getElem?_eq_none (by simp; omega)]
      rw [ey] at e
      refine ⟨D, _, rfl, SqL.of e, ?_⟩
      rw [show (List.replicate ys.length true).all id = true by simp]
      exact q H2 (s2.trans hid_same)
end

end Fb

namespace Fb
open PySem PySem.Spec PyProof.Rows L2
section
variable {P : Program} {w : World} {K : PySem.W.Frag} {mg : Str → Option Value} {base : Heap}
/-! ### the law's names -/
def tenNames : List Str := ["a", "ab", "b", "stop", "toss", "abc", "part", "zzzzzzzz", "ba", "aa"]
def kqs : List Nat := ("kqxzjvwmbt" : Str).cps.toList
def NmFrom (z : Str) : Prop := z ∈ tenNames ∨ ∃ c ∈ kqs, z.cps.toList.getLast? = some c
structure NmsOk (m : Nat) (zs : List Str) : Prop where
  len : zs.length = m
  nd : zs.Nodup
  all : ∀ z ∈ zs, NmOk z
  src : ∀ z ∈ zs, NmFrom z
theorem nmOk_of {x : Str} (h : (decide (1 ≤ x.length) && decide (x.length ≤ 8) && x.cps.toList.all fun c => decide (c ∈ letters)) = true) : NmOk x := by
  rw [Bool.and_eq_true, Bool.and_eq_true] at h
  exact ⟨of_decide_eq_true h.1.1, of_decide_eq_true h.1.2, fun c hc => of_decide_eq_true (List.all_eq_true.mp h.2 c hc)⟩
theorem ten_all : ∀ z ∈ tenNames, NmOk z := fun z hz => nmOk_of (by
  have : (tenNames.all fun x => (decide (1 ≤ x.length) && decide (x.length ≤ 8) && x.cps.toList.all fun c => decide (c ∈ letters))) = true := by decide +kernel
  exact List.all_eq_true.mp this z hz)
theorem ten_nd : tenNames.Nodup := by decide +kernel
def rot (k m : Nat) : List Str := (tenNames.drop k ++ tenNames.take k).take m
theorem rot_ok {k m : Nat} (hm : m ≤ 10) : NmsOk m (rot k m) := by
  have pm : (tenNames.drop k ++ tenNames.take k).Perm tenNames := List.perm_append_comm.trans (by rw [List.take_append_drop])
  have l10 : (tenNames.drop k ++ tenNames.take k).length = 10 := pm.length_eq
  have mem : ∀ z ∈ rot k m, z ∈ tenNames := fun z hz => pm.mem_iff.mp (List.mem_of_mem_take hz)
  exact ⟨by unfold rot; rw [List.length_take, l10]; omega, (List.take_sublist _ _).nodup (pm.nodup_iff.mpr ten_nd), fun z hz => ten_all z (mem z hz), fun z hz => .inl (mem z hz)⟩
theorem kq_nd : kqs.Nodup := by decide +kernel
theorem kq_let : ∀ c ∈ kqs, c ∈ letters := by decide +kernel
theorem kq_cut {m : Nat} (h : m ≤ 10) : (cutS ("kqxzjvwmbt" : Str) none (some (m : Int))).cps.toList = kqs.take m := by
  show ((kqs.drop 0).take (HT.sIx 10 10 (some (m : Int)) - 0)).toArray.toList = _
  rw [HT.sIx_nat, Nat.min_eq_left h]
  rfl
theorem of_ends {zs : List Str} {cs : List Nat} (h : zs.map (fun z => z.cps.toList.getLast?) = cs.map some) (nd : cs.Nodup) : zs.Nodup := by
  have h1 : (cs.map some).Nodup := List.pairwise_map.mpr (nd.imp fun hab e => hab (Option.some.inj e))
  rw [← h] at h1
  exact (List.pairwise_map.mp h1).imp fun hab e => hab (by rw [e])
theorem none_of {H H' : Hp} {p : Addr} (s : Same H H') (h : H' p = none) : H p = none := by
  cases e : H p with
  | none => rfl
  | some o =>
    have := s _ _ e
    rw [h] at this
    cases this
def spNames : Sp := fun vs H Q _ => ∃ (a : Addr) (m n : Nat), vs = [.ref a, .int m] ∧ m ≤ 4 ∧ WellAt H a (n + 50) ∧
  ∀ H' p zs, H p = none → Same (hid a H) (hid a H') → WellAt H' a n → H' p = some (.lst (zs.map V.str)) → NmsOk m zs → Q (.ref p) H'
theorem four_at {d : Int} {i : Nat} {x : V} (d0 : 0 ≤ d) (d8 : d < 8) (h : [V.int 0, V.int 0, V.int 1, V.int d][i]? = some x) : ∃ l : Nat, l ≤ 7 ∧ x = .int l := by
  match i with
  | 0 => cases h; exact ⟨0, by omega, rfl⟩
  | 1 => cases h; exact ⟨0, by omega, rfl⟩
  | 2 => cases h; exact ⟨1, by omega, rfl⟩
  | 3 => cases h; exact ⟨d.toNat, by omega, by rw [Int.toNat_of_nonneg d0]⟩
  | k + 4 => cases h
theorem ok_l_names (T : Txt K mg) : FnOk P w K mg base CX0 3 T.f_l_names T.d_l_names ["_law_well_here", "_law_many"] spNames := by
  refine T.F_l_names.ok sc_l_names (fun vs H Q E h => ?_) (fun cdv A outer s H vs Q E hr h => ?_)
  · obtain ⟨a, m, n, rfl, _⟩ := h
    rfl
  · obtain ⟨a, m, n, rfl, m4, hw, q⟩ := h
    refine ⟨_, (pss_cons (ps_if (pt_cmpR op_eq (pe_call (ok_l_draw T) (hr.mono (by decide)) (by rfl) T.g_l_draw T.F_l_draw.kp T.b_l_draw .nil pass0 (pa_cons (pv 0) (pa_cons pe_int pa_nil))) pe_int (nomark _))
  (pss_cons (ps_set (i := 2) sc_l_names.nd rfl (.inl rfl) (pe_lst (pa_cons pe_str (pa_cons pe_str (pa_cons pe_str (pa_cons pe_str (pa_cons pe_str (pa_cons pe_str (pa_cons pe_str (pa_cons pe_str (pa_cons pe_str (pa_cons pe_str pa_nil))))))))))))
 (pss_cons (ps_set (i := 3) sc_l_names.nd rfl (.inl rfl) (pe_call (ok_l_draw T) (hr.mono (by decide)) (by rfl) T.g_l_draw T.F_l_draw.kp T.b_l_draw .nil pass0 (pa_cons (pv 0) (pa_cons pe_int pa_nil))))
 (pss_one (ps_ret (pe_slice sl_list (pe_op op_cat (pe_slice sl_list (pv 2) (po_some (pv 3)) po_none) (pe_slice sl_list (pv 2) po_none (po_some (pv 3)))) po_none (po_some (pv 1)))))))
  pss_nil)
 (pss_cons (ps_set (i := 4) sc_l_names.nd rfl (.inl rfl) (pe_lst pa_nil))
 (pss_cons (ps_for PassesOwn.never rfl (pi_str (pe_slice sl_str pe_str po_none (po_some (pv 1)))) (pg_name (i := 5) sc_l_names.nd rfl (.inl rfl))
  (pss_cons (ps_set (i := 6) sc_l_names.nd rfl (.inl rfl) pe_str)
 (pss_cons (ps_for PassesOwn.never rfl (pi_range1 (by rfl) T.z_range (pa_cons (pe_call (ok_l_one T) (hr.mono (by decide)) (by rfl) T.g_l_one T.F_l_one.kp T.b_l_one .nil pass0 (pa_cons (pv 0) (pa_cons (pe_lst (pa_cons pe_int (pa_cons pe_int (pa_cons pe_int (pa_cons (pe_call (ok_l_draw T) (hr.mono (by decide)) (by rfl) T.g_l_draw T.F_l_draw.kp T.b_l_draw .nil pass0 (pa_cons (pv 0) (pa_cons pe_int pa_nil))) pa_nil))))) pa_nil))) pa_nil)) (pg_name (i := 7) sc_l_names.nd rfl (.inl rfl))
  (pss_one (ps_set (i := 6) sc_l_names.nd rfl (.inl rfl) (pe_op op_add_str (pv 6) (pe_ix ix_str pe_str (pe_call (ok_l_draw T) (hr.mono (by decide)) (by rfl) T.g_l_draw T.F_l_draw.kp T.b_l_draw .nil pass0 (pa_cons (pv 0) (pa_cons pe_int pa_nil))) (fun _ _ => rfl))))))
 (pss_one (ps_expr (pe_bm PySem.F.plainAttrs_list PySem.F.slot_list_append PySem.F.type_list_append mt_append (pv 4) (pa_cons (pe_op op_add_str (pv 6) (pv 5)) pa_nil)))))))
 (pss_one (ps_ret (pv 4)))))), ?_⟩
    refine ⟨_, rfl, a, 3, n + 49, rfl, hw, by decide, by decide, fun d H1 d0 d1 s1 w1 => ⟨rfl, _, rfl, ite2 (fun h => ?_) (fun h => ?_)⟩⟩
    · refine ⟨by show 10 ≤ sizeLine; decide, fun ps nps => ?_⟩
      obtain ⟨w2, s2⟩ := well_new (o := .lst (tenNames.map V.str)) w1 nps
      have hps : (upd H1 ps (.lst (tenNames.map V.str))) ps = some (.lst (tenNames.map V.str)) := upd_same
      have npa := w1.ne nps
      refine ⟨_, rfl, a, 10, n + 48, rfl, w2, by decide, by decide, fun e H2 e0 e1 s3 w3 => ?_⟩
      obtain ⟨k, rfl⟩ : ∃ k : Nat, e = (k : Int) := ⟨e.toNat, (Int.toNat_of_nonneg e0).symm⟩
      have hps2 : H2 ps = some (.lst (tenNames.map V.str)) := hid_same _ _ (s3 _ _ (by rw [hid_ne npa]; exact hps))
      have sH : Same (hid a H) (hid a H2) := s1.trans (s2.trans s3)
      refine ⟨_, rfl, _, rfl, k, rfl, ps, _, rfl, SqL.of hps2, fun p1 np1 => ?_⟩
      have t1 := same_upd (o := .lst (cutV (tenNames.map V.str) (some (k : Int)) none)) np1
      refine ⟨_, rfl, _, rfl, k, rfl, ps, _, rfl, SqL.of (t1 _ _ hps2), fun p2 np2 => ?_⟩
      have t2 := same_upd (o := .lst (cutV (tenNames.map V.str) none (some (k : Int)))) np2
      refine ⟨p1, p2, _, _, rfl, rfl, t2 _ _ upd_same, upd_same, ?_, fun p3 np3 => ?_⟩
      · have h1 := cutV_length (tenNames.map V.str) (some (k : Int)) none
        have h2 := cutV_length (tenNames.map V.str) none (some (k : Int))
        rw [List.length_map] at h1 h2
        have : tenNames.length = 10 := rfl
        exact Nat.le_of_lt (small1000 (by omega))
      have t3 := same_upd (o := .lst (cutV (tenNames.map V.str) (some (k : Int)) none ++ cutV (tenNames.map V.str) none (some (k : Int)))) np3
      refine ⟨_, rfl, m, rfl, p3, _, rfl, SqL.of upd_same, fun p4 np4 => ?_⟩
      have t4 := same_upd (o := .lst (cutV (cutV (tenNames.map V.str) (some (k : Int)) none ++ cutV (tenNames.map V.str) none (some (k : Int))) none (some (m : Int)))) np4
      have st := t1.trans (t2.trans (t3.trans t4))
      refine q _ p4 (rot k m) ?_ (sH.trans (hid_mono st)) ((w3.same st).mono (by omega)) ?_ (rot_ok (by omega))
      · exact none_back sH w3 (none_of (t1.trans (t2.trans t3)) np4)
      · have c1 := cut_from (xs := tenNames.map V.str) (k := k) (by rw [List.length_map]; show k ≤ 10; omega)
        have c2 := cut_to (xs := tenNames.map V.str) (k := k) (by rw [List.length_map]; show k ≤ 10; omega)
        rw [upd_same, c1, c2, ← List.map_drop, ← List.map_take, ← List.map_append, cut_to, ← List.map_take]
        · rfl
        · rw [List.length_map, List.length_append, List.length_drop, List.length_take]
          show m ≤ 10 - k + min k 10
          omega
    · refine ⟨Nat.zero_le _, fun pf nf => ?_⟩
      obtain ⟨w2, s2⟩ := well_new (o := .lst []) w1 nf
      have nfH := none_back s1 w1 nf
      have nfa := w1.ne nf
      have kc := kq_cut (m := m) (by omega)
      have kz : (cutS ("kqxzjvwmbt" : Str) none (some (m : Int))).cps.size = m := by
        rw [← Array.length_toList, kc, List.length_take]
        show min m 10 = m
        omega
      refine ⟨_, rfl, m, rfl, _, rfl, by decide, cutS ("kqxzjvwmbt" : Str) none (some (m : Int)), rfl, ?_⟩
      refine for_it walk_str (fun i σ H' => ∃ (z5 z6 z7 : Option V) (zs : List Str), σ = [some (.ref a), some (.int m), none, none, some (.ref pf), z5, z6, z7] ∧ Same (hid a H) (hid a H') ∧ WellAt H' a (n + 9 * (m - i)) ∧ H' pf = some (.lst (zs.map V.str)) ∧ zs.length = i ∧ zs.map (fun z => z.cps.toList.getLast?) = (kqs.take i).map some ∧ ∀ z ∈ zs, NmOk z) ?_ (fun _ _ _ _ _ => trivial) (fun i v σ H2 H3 hi h y => ?_) (fun σ H2 h => ?_)
      · exact ⟨none, none, none, [], rfl, s1.trans s2, w2.mono (by omega), upd_same, rfl, rfl, fun z hz => by cases hz⟩
      · obtain ⟨rfl, c, hc, rfl⟩ := y
        obtain ⟨z5, z6, z7, zs, rfl, sH, w3, hf, lz, ez, az⟩ := h
        rw [kz] at hi
        rw [← Array.getElem?_toList, kc, List.getElem?_take_of_lt hi] at hc
        have hck : c ∈ kqs := List.mem_of_getElem? hc
        obtain ⟨r, hr9⟩ : ∃ r, n + 9 * (m - i) = r + 9 ∧ r = n + 9 * (m - (i + 1)) := ⟨_, by omega, rfl⟩
        rw [hr9.1] at w3
        refine ⟨_, rfl, _, rfl, a, 8, r + 8, rfl, w3, by decide, by decide, fun d H4 d0 d1 s4 w4 => ⟨by show 4 ≤ sizeLine; decide, fun p4 n4 => ?_⟩⟩
        obtain ⟨w5, s5⟩ := well_new (o := .lst [.int 0, .int 0, .int 1, .int d]) w4 n4
        refine ⟨a, p4, _, r + 7, rfl, w5, sqL_hid w4 n4, by show 0 < 4; decide, by show 4 ≤ 1000; decide, fun j x H5 hx s6 w6 => ?_⟩
        obtain ⟨l, l7, rfl⟩ := four_at d0 d1 hx
        have s46 := s4.trans (s5.trans s6)
        refine ⟨l, rfl, by omega, by omega, for_range (fun j σ H' => ∃ (z7 : Option V) (wd : Str), σ = [some (.ref a), some (.int m), none, none, some (.ref pf), some (.str ⟨#[c]⟩), some (.str wd), z7] ∧ Same (hid a H3) (hid a H') ∧ WellAt H' a (r + (7 - j)) ∧ wd.length = j ∧ ∀ c ∈ wd.cps.toList, c ∈ letters) ⟨_, _, rfl, s46, w6, rfl, fun c hc => by cases hc⟩ (fun j σ H6 hj h => ?_) (fun σ H6 h => ?_)⟩
        · obtain ⟨z7, wd, rfl, s7, w7, lw, aw⟩ := h
          rw [Int.toNat_natCast] at hj
          refine ⟨_, rfl, _, rfl, a, 26, r + (7 - (j + 1)), rfl, w7.mono (by omega), by decide, by decide, fun e H7 e0 e1 s8 w8 => ?_⟩
          obtain ⟨ch, h1, h2⟩ := atI_get (xs := letters) e0 e1
          refine ⟨_, e, ch, rfl, rfl, by decide, h1, _, _, rfl, rfl, ?_, ?_⟩
          · show wd.length + 1 ≤ sizeLine
            exact Nat.le_of_lt (small1000 (by omega))
          · refine ⟨_, _, rfl, s7.trans s8, w8, ?_, fun c' hc' => ?_⟩
            · show (wd.cps ++ #[ch]).size = j + 1
              rw [Array.size_append, show wd.cps.size = j from lw]
              rfl
            · rw [show (wd ++ (⟨#[ch]⟩ : Str)).cps.toList = wd.cps.toList ++ [ch] from Array.toList_append] at hc'
              rcases List.mem_append.mp hc' with h | h
              · exact aw _ h
              · rw [List.mem_singleton] at h
                rw [h]
                exact List.mem_of_getElem? h2
        · obtain ⟨z7, wd, rfl, s7, w7, lw, aw⟩ := h
          rw [Int.toNat_natCast] at lw w7
          have hf6 : H6 pf = some (.lst (zs.map V.str)) := hid_same _ _ (s7 _ _ (by rw [hid_ne nfa]; exact hf))
          refine ⟨_, rfl, .inl ⟨rfl, _, SqL.of hf6⟩, _, rfl, _, rfl, _, _, rfl, rfl, ?_, pf, _, _, rfl, rfl, hf6, ?_, ?_⟩
          · show wd.length + 1 ≤ sizeLine
            exact Nat.le_of_lt (small1000 (by omega))
          · rw [List.length_map]
            exact small1000 (by omega)
          have cp : (wd ++ (⟨#[c]⟩ : Str)).cps.toList = wd.cps.toList ++ [c] := Array.toList_append
          refine ⟨_, _, _, zs ++ [wd ++ ⟨#[c]⟩], rfl, ?_, ?_, ?_, ?_, ?_, fun z hz => ?_⟩
          · rw [hid_updN nfa]
            exact same_over (sH.trans s7) (by rw [hid_ne nfa]; exact nfH)
          · exact (w7.upd nfa).mono (by omega)
          · rw [upd_same, List.map_append]
            rfl
          · rw [List.length_append, lz]
            rfl
          · rw [List.map_append, ez, List.take_add_one, hc, List.map_append]
            show _ ++ [(wd ++ (⟨#[c]⟩ : Str)).cps.toList.getLast?] = _
            rw [cp, List.getLast?_append]
            rfl
          · rcases List.mem_append.mp hz with h | h
            · exact az _ h
            · rw [List.mem_singleton] at h
              subst h
              have lc : (wd ++ (⟨#[c]⟩ : Str)).length = l + 1 := by
                show (wd.cps ++ #[c]).size = l + 1
                rw [Array.size_append, show wd.cps.size = l from lw]
                rfl
              refine ⟨by omega, by omega, fun c' hc' => ?_⟩
              rw [cp] at hc'
              rcases List.mem_append.mp hc' with h | h
              · exact aw _ h
              · rw [List.mem_singleton] at h
                rw [h]
                exact kq_let _ hck
      · obtain ⟨z5, z6, z7, zs, rfl, sH, w3, hf, lz, ez, az⟩ := h
        rw [kz] at lz ez w3
        refine ⟨_, rfl, q H2 pf zs nfH sH (w3.mono (by omega)) hf ⟨lz, of_ends ez ((List.take_sublist _ _).nodup kq_nd), az, fun z hz => .inr ?_⟩⟩
        have : z.cps.toList.getLast? ∈ (kqs.take m).map some := by
          rw [← ez]
          exact List.mem_map.mpr ⟨z, hz, rfl⟩
        obtain ⟨c, hc, e⟩ := List.mem_map.mp this
        exact ⟨c, List.mem_of_mem_take hc, e.symm⟩
end

end Fb

namespace Fb
open PySem PySem.Spec PyProof.Rows L2
section
variable {P : Program} {w : World} {K : PySem.W.Frag} {mg : Str → Option Value} {base : Heap}
/-! ### rows of books -/
inductive Arg
  | sg (z : Str)
  | nu (n : Nat)
  | sh (q : Rat)
structure Rw where
  word : Str
  args : List Arg
def kindA : Arg → Str
  | .sg _ => "sign"
  | .nu _ => "number"
  | .sh _ => "share"
def forms : List (Str × List Str) := [("one", []), ("can", ["sign"]), ("on", ["sign", "number"]), ("not", ["number"]), ("less", ["number", "share"]), ("both", ["number", "number"]), ("either", ["number", "number"])]
def ArgOk (i : Nat) : Arg → Prop
  | .sg z => NmOk z
  | .nu n => n < i
  | .sh q => 0 ≤ q.num ∧ q.num ≤ (q.den : Int) ∧ Bd 100 q
structure RwOk (i : Nat) (r : Rw) : Prop where
  form : (r.word, r.args.map kindA) ∈ forms
  args : ∀ a ∈ r.args, ArgOk i a
def BkOk (rs : List Rw) : Prop := ∀ (i : Nat) r, rs[i]? = some r → RwOk i r
abbrev ShR := Hp → V → Rat → Prop
def ShM (S : ShR) : Prop := ∀ H H' v q, Same H H' → S H v q → S H' v q
def SB (C : Addr) : ShR := fun H v q => IsShare C H v q
def SL : ShR := fun H v q => IsTup2 H v q.num (q.den : Int)
theorem SB.m (C : Addr) : ShM (SB C) := fun _ _ _ _ s h => IsShare.mono h s
theorem SL.m : ShM SL := fun _ _ _ _ s h => IsTup2.mono h s
def IsArg (S : ShR) (H : Hp) (v : V) : Arg → Prop
  | .sg z => v = .str z
  | .nu n => v = .int (n : Int)
  | .sh q => S H v q
theorem IsArg.mono {S : ShR} (hS : ShM S) {H H' : Hp} {v : V} {a : Arg} (s : Same H H') (h : IsArg S H v a) : IsArg S H' v a := by
  cases a with
  | sg z => exact h
  | nu n => exact h
  | sh q => exact hS _ _ _ _ s h
def IsRw (S : ShR) (H : Hp) (v : V) (r : Rw) : Prop := ∃ t vs, v = .ref t ∧ H t = some (.tup (.str r.word :: vs)) ∧ AllAre (IsArg S H) vs r.args
theorem IsRw.mono {S : ShR} (hS : ShM S) {H H' : Hp} {v : V} {r : Rw} (s : Same H H') (h : IsRw S H v r) : IsRw S H' v r := by
  obtain ⟨t, vs, e, h1, a⟩ := h
  exact ⟨t, vs, e, s _ _ h1, a.imp fun _ _ h => h.mono hS s⟩
theorem form_len {i : Nat} {r : Rw} (h : RwOk i r) : r.args.length ≤ 2 := by
  have e : (r.args.map kindA).length ≤ 2 := by
    have h := h.form
    generalize r.word = z at h
    generalize r.args.map kindA = ks at h
    simp only [forms, List.mem_cons, Prod.mk.injEq, List.not_mem_nil, or_false] at h
    rcases h with ⟨_, rfl⟩ | ⟨_, rfl⟩ | ⟨_, rfl⟩ | ⟨_, rfl⟩ | ⟨_, rfl⟩ | ⟨_, rfl⟩ | ⟨_, rfl⟩ <;> simp
  rw [List.length_map] at e
  exact e
theorem kd_FORMS (T : Txt K mg) (hw : T.prm = w.params) : KDict K w T.u_FORMS T.e_FORMS T.n_FORMS := ⟨T.at_FORMS, hw ▸ T.lit_FORMS, T.low_FORMS⟩
/-- what stands in FORMS -/
theorem form_at (T : Txt K mg) (hw : T.prm = w.params) {z : Str} {ks : List Str} (h : (z, ks) ∈ forms) : ∃ t, PySem.W.nsIn K T.u_FORMS z = some (some (.ref t)) ∧ KDct K w T.u_FORMS z (.ref t) ∧ SqK K t (ks.map V.str) := by
  have fin : ∀ {z : Str} {t : Addr}, PySem.W.nsIn K T.u_FORMS z = some (some (.ref t)) → KDct K w T.u_FORMS z (.ref t) := fun h => ⟨_, _, _, T.at_FORMS, hw ▸ T.lit_FORMS, h, rfl⟩
  simp only [forms, List.mem_cons, Prod.mk.injEq, List.not_mem_nil, or_false] at h
  rcases h with ⟨rfl, rfl⟩ | ⟨rfl, rfl⟩ | ⟨rfl, rfl⟩ | ⟨rfl, rfl⟩ | ⟨rfl, rfl⟩ | ⟨rfl, rfl⟩ | ⟨rfl, rfl⟩
  · exact ⟨_, T.k_FORMS_0, fin T.k_FORMS_0, T.v_FORMS_0⟩
  · exact ⟨_, T.k_FORMS_1, fin T.k_FORMS_1, T.v_FORMS_1⟩
  · exact ⟨_, T.k_FORMS_2, fin T.k_FORMS_2, T.v_FORMS_2⟩
  · exact ⟨_, T.k_FORMS_3, fin T.k_FORMS_3, T.v_FORMS_3⟩
  · exact ⟨_, T.k_FORMS_4, fin T.k_FORMS_4, T.v_FORMS_4⟩
  · exact ⟨_, T.k_FORMS_5, fin T.k_FORMS_5, T.v_FORMS_5⟩
  · exact ⟨_, T.k_FORMS_6, fin T.k_FORMS_6, T.v_FORMS_6⟩
theorem trues {n : Nat} {ys : List V} (l : ys.length = n) (h : ∀ (i : Nat) y, ys[i]? = some y → y = .bl true) : ys = (List.replicate n true).map V.bl := by
  refine List.ext_getElem? fun i => ?_
  by_cases hi : i < ys.length
  · rw [List.getElem?_eq_getElem hi, h i _ (List.getElem?_eq_getElem hi), List.getElem?_map, List.getElem?_replicate, if_pos (by omega)]
    rfl
  · rw [List.getElem?_eq_none (by omega), List.getElem?_eq_none (by simp; omega)]
theorem all_trues (n : Nat) : (List.replicate n true).all id = true := by simp
theorem str_ne {a b : Str} (h : a ≠ b) : decide (V.str a = V.str b) = false := decide_eq_false fun z => h (V.str.inj z)
/-! ### is_such, is_row, check_book, of good ones -/
def spSuch (C : Addr) : Sp := fun vs H Q _ => ∃ (v : V) (a : Arg) (i : Nat), vs = [v, .str (kindA a), .int i] ∧ IsArg (SB C) H v a ∧ ArgOk i a ∧ ∀ H', Same H H' → Q (.bl true) H'
theorem ok_p_is_such (T : Txt K mg) : FnOk P w K mg base CX0 2 T.f_p_is_such T.d_p_is_such ["thing", "kind", "at"] (spSuch T.c_Share) := by
  refine T.F_p_is_such.ok sc_p_is_such (fun vs H Q E h => ?_) (fun cdv A outer s H vs Q E hr h => ?_)
  · obtain ⟨v, a, i, rfl, _⟩ := h
    rfl
  · obtain ⟨v, a, i, rfl, hv, ok, q⟩ := h
    refine ⟨_, (pss_cons (ps_if (pt_cmpR op_eq (pv 1) pe_str (nomark _))
  (pss_one (ps_ret (pe_call (ok_p_is_name T) (hr.mono (by decide)) (by rfl) T.g_p_is_name T.F_p_is_name.kp T.b_p_is_name .nil pass0 (pa_cons (pv 0) pa_nil))))
  pss_nil)
 (pss_cons (ps_if (pt_cmpR op_eq (pv 1) pe_str (nomark _))
  (pss_one (ps_ret (pe_and (pe_call (ok_p_is_whole T) (hr.mono (by decide)) (by rfl) T.g_p_is_whole T.F_p_is_whole.kp T.b_p_is_whole .nil pass0 (pa_cons (pv 0) pa_nil)) (pe_one (pe_chain op_le op_lt pe_int (pv 0) (pv 2))))))
  pss_nil)
 (pss_one (ps_ret (pe_and (pe_callB call_isi (by rfl) T.z_isinstance (by decide +kernel) (pa_cons (pv 0) (pa_cons (pe_glob (v := .ref T.c_Share) (by rfl) T.g_Share rfl) pa_nil))) (pe_one (pe_chain op_le op_le pe_int (pe_fld (pv 0) rfl) (pe_fld (pv 0) rfl)))))))), ?_⟩
    refine ⟨_, rfl, rfl, _, rfl, ?_⟩
    cases a with
    | sg z =>
      obtain rfl : v = .str z := hv
      refine iteT ?_
      exact ⟨_, rfl, z, rfl, ok, fun H' s' => q H' s'⟩
    | nu n =>
      obtain rfl : v = .int (n : Int) := hv
      have ok : n < i := ok
      refine iteF ?_
      refine ⟨_, rfl, rfl, _, rfl, iteT ?_⟩
      refine ⟨_, rfl, (n : Int), rfl, true, rfl, iteT ?_⟩
      refine ⟨_, rfl, _, _, rfl, rfl, true, congrArg V.bl (decide_eq_true (by omega)), iteT ⟨_, rfl, _, _, rfl, rfl, ?_⟩⟩
      dsimp only
      rw [decide_eq_true (show (n : Int) < (i : Int) by omega)]
      exact q H (Same.refl _)
    | sh z =>
      obtain ⟨p, dx, rfl, hx⟩ : IsShare T.c_Share H v z := hv
      obtain ⟨o1, o2, _⟩ := ok
      refine iteF ?_
      refine ⟨_, rfl, rfl, _, rfl, iteF ?_⟩
      refine ⟨_, rfl, _, _, _, _, true, rfl, .own _, tyShare T hx, T.k_Share, true, rfl, iteT ?_⟩
      refine ⟨_, rfl, _, _, _, _, _, rfl, hx, T.cl_Share, T.n_Share_top, flds_top _, _, _, rfl, rfl, true, congrArg V.bl (decide_eq_true o1), iteT ⟨_, rfl, _, _, _, _, _, rfl, hx, T.cl_Share, T.n_Share_bottom, flds_bottom _, _, _, rfl, rfl, ?_⟩⟩
      dsimp only
      rw [decide_eq_true o2]
      exact q H (Same.refl _)
def spIsRow (C : Addr) : Sp := fun vs H Q _ => ∃ (v : V) (r : Rw) (i : Nat), vs = [v, .int i] ∧ IsRw (SB C) H v r ∧ RwOk i r ∧ ∀ H', Same H H' → Q (.bl true) H'
theorem ok_p_is_row (T : Txt K mg) (hw : T.prm = w.params) : FnOk P w K mg base CX0 3 T.f_p_is_row T.d_p_is_row ["thing", "at"] (spIsRow T.c_Share) := by
  refine T.F_p_is_row.ok sc_p_is_row (fun vs H Q E h => ?_) (fun cdv A outer s H vs Q E hr h => ?_)
  · obtain ⟨v, r, i, rfl, _⟩ := h
    rfl
  · obtain ⟨v, r, i, rfl, ⟨t, vs, rfl, ht, av⟩, ok, q⟩ := h
    refine ⟨_, (pss_cons (ps_if (PW.pt (pw_or (pt_not (pt_val (pe_callB call_isi (by rfl) T.z_isinstance (by decide +kernel) (pa_cons (pv 0) (pa_cons (pe_bltn (v := .ty "tuple") (by rfl) T.z_tuple (by decide +kernel) rfl) pa_nil))))) (pw_or (pt_cmpR op_eq (pe_callB call_len_seq (by rfl) T.z_len (by decide +kernel) (pa_cons (pv 0) pa_nil)) pe_int (nomark _)) (pw_or (pt_not (pt_val (pe_callB call_isi (by rfl) T.z_isinstance (by decide +kernel) (pa_cons (pe_ix ix_tup (pv 0) pe_int (fun _ _ => rfl)) (pa_cons (pe_bltn (v := .ty "str") (by rfl) T.z_str (by decide +kernel) rfl) pa_nil))))) (pw_or1 (pt_cmpR (op_notIn_kd (kd_FORMS T hw)) (pe_ix ix_tup (pv 0) pe_int (fun _ _ => rfl)) (pe_glob (v := .ref T.u_FORMS) (by rfl) T.g_FORMS rfl) (by with_unfolding_all rfl)))))))
  (pss_one (ps_ret pe_bl))
  pss_nil)
 (pss_cons (ps_set (i := 2) sc_p_is_row.nd rfl (.inl rfl) (pe_ix ix_kdict (pe_glob (v := .ref T.u_FORMS) (by rfl) T.g_FORMS rfl) (pe_ix ix_tup (pv 0) pe_int (fun _ _ => rfl)) (fun _ _ => rfl)))
 (pss_cons (ps_if (pt_cmpR op_ne (pe_callB call_len_seq (by rfl) T.z_len (by decide +kernel) (pa_cons (pv 0) pa_nil)) (pe_op op_add pe_int (pe_callB call_len_seq (by rfl) T.z_len (by decide +kernel) (pa_cons (pv 2) pa_nil))) (nomark _))
  (pss_one (ps_ret pe_bl))
  pss_nil)
 (pss_one (ps_ret (pe_callB (cr_all rfl) (by rfl) T.z_all (by decide +kernel) (pa_cons (pe_lc (own := [("each", 3), ("kind", 4)]) (g := (gTup K 2 (gCons (gName 3) (gCons (gName 4) gNil)))) (tt := tYes) (by rfl) sc_p_is_row.nd (RZ.pi_zipA (by rfl) T.z_zip (pa_cons (pe_slice sl_tup (pv 0) (po_some pe_int) po_none) (pa_cons (pv 2) pa_nil))) (blkOk_by (own := [("each", 3), ("kind", 4)]) (N := ["thing", "at", "kinds", "each", "kind"]) (sc := defScope s_p_is_row) (by decide +kernel)) (fun _ _ _ _ _ => by exact (pg_tup (by rfl) (pgs_cons (pg_name (i := 3) sc_p_is_row.nd rfl (.inl rfl)) (pgs_cons (pg_name (i := 4) sc_p_is_row.nd rfl (.inl rfl)) pgs_nil)))) (fun _ _ _ _ _ => by exact pts_nil) (fun _ _ _ _ _ => by exact (pe_call (ok_p_is_such T) (hr.mono (by decide)) (by rfl) T.g_p_is_such T.F_p_is_such.kp T.b_p_is_such .nil pass0 (pa_cons (pv 3) (pa_cons (pv 4) (pa_cons (pv 1) pa_nil)))))) pa_nil))))))), ?_⟩
    obtain ⟨tk, f1, f2, f3⟩ := form_at T hw ok.form
    have l2 := form_len ok
    have lv : vs.length = r.args.length := av.1
    have sq : SqT K H t (.str r.word :: vs) := .inl (.inl ht)
    refine ⟨_, rfl, _, _, _, _, true, rfl, .ty _, .base (.tup ht), kit_ty (by decide +kernel), true, rfl, iteF ?_⟩
    refine ⟨_, rfl, t, _, rfl, .inr sq, rfl, _, rfl, ?_⟩
    rw [decide_eq_false (fun z => by have := V.int.inj z; simp at this; omega)]
    refine iteF ?_
    refine ⟨_, rfl, t, _, _, _, rfl, rfl, sq, atI_nat (j := 0) rfl, _, _, _, _, true, rfl, .ty _, .base (.str _), kit_ty (by decide +kernel), true, rfl, iteF ?_⟩
    refine ⟨_, rfl, t, _, _, _, rfl, rfl, sq, atI_nat (j := 0) rfl, r.word, _, rfl, rfl, f1, _, rfl, iteF ?_⟩
    refine ⟨_, rfl, t, _, _, _, rfl, rfl, sq, atI_nat (j := 0) rfl, T.u_FORMS, r.word, .ref tk, rfl, rfl, f2, ?_⟩
    refine ⟨_, rfl, t, _, rfl, .inr sq, _, rfl, tk, _, rfl, .inr f3.sq, _, _, rfl, rfl, rfl, _, rfl, ?_⟩
    rw [decide_eq_true (show V.int (((V.str r.word :: vs).length : Nat) : Int) = V.int (1 + (((r.args.map kindA).map V.str).length : Nat)) by
      congr 1
      simp
      omega)]
    refine iteF ?_
    refine ⟨_, rfl, 1, rfl, t, _, rfl, sq, tail_part _ _, fun p np => ?_⟩
    rw [cut_tail]
    have sp := same_upd (o := .tup vs) np
    have ep : (upd H p (.tup vs)) p = some (.tup vs) := upd_same
    have lk : ((r.args.map kindA).map V.str).length = r.args.length := by simp
    refine ⟨_, rfl, p, tk, _, _, rfl, .inr ⟨.inl (.inl ep), f3.sq, fun D nD => lc_allW (walk_zipT (K := K) (a := p) (b := tk) (xs := vs) (ys := (r.args.map kindA).map V.str) (n := r.args.length) (by rw [lk, lv, Nat.min_self])) (fun _ y _ => y = .bl true) (fun _ _ _ _ _ h => h) nD (fun H' s => ⟨.inl (.inl (s _ _ ep)), f3.sq⟩) (by omega) (fun j x H2 H3 k hj s2 eD y hk => ?_) (fun H2 ys s2 e l h2 => ?_)⟩⟩
    · obtain ⟨tt, x1, y1, rfl, nt, rfl, ex, ey⟩ := y
      have ey : ((r.args.map kindA).map V.str)[j]? = some y1 := ey
      rw [List.getElem?_map, List.getElem?_map] at ey
      obtain ⟨a, ha, hx⟩ := av.at (show vs[j]? = some x1 from ex)
      rw [ha] at ey
      obtain rfl : V.str (kindA a) = y1 := Option.some.inj ey
      have st := same_upd (o := .tup [x1, .str (kindA a)]) nt
      refine ⟨tt, _, rfl, .inl (.inl upd_same), rfl, _, _, rfl, _, _, rfl, rfl, rfl, ?_⟩
      refine ⟨_, rfl, _, rfl, _, rfl, x1, a, i, rfl, hx.mono (SB.m _) (sp.trans ((s2.trans hid_same).trans st)), ok.args a (List.mem_of_getElem? ha), fun H4 s4 => hk _ _ (st.trans s4) rfl⟩
    · rw [trues l h2] at e
      refine ⟨D, _, rfl, SqL.of e, ?_⟩
      rw [all_trues]
      exact q H2 (sp.trans (s2.trans hid_same))
def IsBk (S : ShR) (H : Hp) (v : V) (rs : List Rw) : Prop := ∃ b vs, v = .ref b ∧ H b = some (.lst vs) ∧ AllAre (IsRw S H) vs rs
def spChkB (C : Addr) : Sp := fun vs H Q _ => ∃ (b : Addr) (xs : List V) (rs : List Rw), vs = [.ref b] ∧ H b = some (.lst xs) ∧ AllAre (IsRw (SB C) H) xs rs ∧ BkOk rs ∧ rs ≠ [] ∧ rs.length ≤ 300 ∧ ∀ H', Same H H' → Q .non H'
theorem ok_p_check_book (T : Txt K mg) (hw : T.prm = w.params) : FnOk P w K mg base CX0 4 T.f_p_check_book T.d_p_check_book ["thing"] (spChkB T.c_Share) := by
  refine T.F_p_check_book.ok sc_p_check_book (fun vs H Q E h => ?_) (fun cdv A outer s H vs Q E hr h => ?_)
  · obtain ⟨b, xs, rs, rfl, _⟩ := h
    rfl
  · obtain ⟨b, xs, rs, rfl, hb, av, ok, ne, l3, q⟩ := h
    refine ⟨_, PSs.nox (pss_cons (ps_if (PW.pt (pw_or (pt_not (pt_val (pe_callB call_isi (by rfl) T.z_isinstance (by decide +kernel) (pa_cons (pv 0) (pa_cons (pe_bltn (v := .ty "list") (by rfl) T.z_list (by decide +kernel) rfl) pa_nil))))) (pw_or1 (pt_cmpR op_eq (pe_callB call_len_seq (by rfl) T.z_len (by decide +kernel) (pa_cons (pv 0) pa_nil)) pe_int (nomark _)))))
  (pss_one ps_never)
  pss_nil)
 (pss_one (ps_if (pt_not (pt_val (pe_callB (cr_all rfl) (by rfl) T.z_all (by decide +kernel) (pa_cons (pe_lc (own := [("at", 1), ("row", 2)]) (g := (gTup K 2 (gCons (gName 1) (gCons (gName 2) gNil)))) (tt := tYes) (by rfl) sc_p_check_book.nd (pi_enum (by rfl) T.z_enumerate (pa_cons (pv 0) pa_nil)) (blkOk_by (own := [("at", 1), ("row", 2)]) (N := ["thing", "at", "row"]) (sc := defScope s_p_check_book) (by decide +kernel)) (fun _ _ _ _ _ => by exact (pg_tup (by rfl) (pgs_cons (pg_name (i := 1) sc_p_check_book.nd rfl (.inl rfl)) (pgs_cons (pg_name (i := 2) sc_p_check_book.nd rfl (.inl rfl)) pgs_nil)))) (fun _ _ _ _ _ => by exact pts_nil) (fun _ _ _ _ _ => by exact (pe_call (ok_p_is_row T hw) (hr.mono (by decide)) (by rfl) T.g_p_is_row T.F_p_is_row.kp T.b_p_is_row .nil pass0 (pa_cons (pv 2) (pa_cons (pv 1) pa_nil))))) pa_nil))))
  (pss_one ps_never)
  pss_nil))), ?_⟩
    have lx : xs.length = rs.length := av.1
    have l0 : rs.length ≠ 0 := fun z => ne (List.length_eq_zero_iff.mp z)
    refine ⟨_, rfl, _, _, _, _, true, rfl, .ty _, .base (.lst hb), kit_ty (by decide +kernel), true, rfl, iteF ?_⟩
    refine ⟨_, rfl, b, _, rfl, .inl (SqL.of hb), rfl, _, rfl, ?_⟩
    rw [decide_eq_false (fun z => by have := V.int.inj z; omega)]
    refine iteF ?_
    refine ⟨_, rfl, b, _, rfl, SqL.of hb, fun D nD => lc_allW (walk_enum (K := K) (a := b) (xs := xs)) (fun _ y _ => y = .bl true) (fun _ _ _ _ _ h => h) nD (fun H' s => SqL.of (s _ _ hb)) (by omega) (fun j x H2 H3 k hj s2 eD y hk => ?_) (fun H2 ys s2 e l h2 => ?_)⟩
    · obtain ⟨tt, x1, y1, rfl, nt, rfl, ex, ey⟩ := y
      cases ex
      obtain ⟨r, hr', hx⟩ := av.at (show xs[j]? = some y1 from ey)
      have st := same_upd (o := .tup [.int (j : Nat), y1]) nt
      refine ⟨tt, _, rfl, .inl (.inl upd_same), rfl, _, _, rfl, _, _, rfl, rfl, rfl, ?_⟩
      exact ⟨_, rfl, _, rfl, y1, r, j, rfl, hx.mono (SB.m _) ((s2.trans hid_same).trans st), ok j r hr', fun H4 s4 => hk _ _ (st.trans s4) rfl⟩
    · rw [trues l h2] at e
      refine ⟨D, _, rfl, SqL.of e, true, by rw [all_trues], iteF ?_⟩
      exact q H2 (s2.trans hid_same)
end

end Fb

namespace Fb
open PySem PySem.Spec PyProof.Rows L2
section
variable {P : Program} {w : World} {K : PySem.W.Frag} {mg : Str → Option Value} {base : Heap}
/-! ### depths -/
def isNu : Arg → Bool
  | .nu _ => true
  | _ => false
def val (ds : List Nat) : Arg → Nat
  | .nu n => ds.getD n 0
  | _ => 0
def maxL : List Nat → Nat
  | [] => 0
  | n :: r => max n (maxL r)
def upW (z : Str) : Nat := if inV (V.str z) [V.str "can", V.str "on"] = true then 1 else 0
def dep (ds : List Nat) (r : Rw) : Nat := maxL ((r.args.filter isNu).map (val ds)) + upW r.word
def depsF (ds : List Nat) : List Rw → List Nat
  | [] => ds
  | r :: rs => depsF (ds ++ [dep ds r]) rs
def deps (rs : List Rw) : List Nat := depsF [] rs
theorem depsF_snoc (r : Rw) : ∀ (rs : List Rw) (ds : List Nat), depsF ds (rs ++ [r]) = depsF ds rs ++ [dep (depsF ds rs) r]
  | [], _ => rfl
  | _ :: rs, _ => depsF_snoc r rs _
theorem deps_snoc (rs : List Rw) (r : Rw) : deps (rs ++ [r]) = deps rs ++ [dep (deps rs) r] := depsF_snoc r rs []
theorem depsF_len : ∀ (rs : List Rw) (ds : List Nat), (depsF ds rs).length = ds.length + rs.length
  | [], _ => rfl
  | r :: rs, ds => by
    show (depsF (ds ++ [dep ds r]) rs).length = _
    rw [depsF_len rs, List.length_append, List.length_cons, List.length_cons, List.length_nil]
    omega
theorem deps_len (rs : List Rw) : (deps rs).length = rs.length := by
  unfold deps
  rw [depsF_len, List.length_nil, Nat.zero_add]
theorem maxL_ge : ∀ {ns : List Nat} {n : Nat}, n ∈ ns → n ≤ maxL ns
  | x :: r, n, h => by
    have e : maxL (x :: r) = max x (maxL r) := rfl
    rcases List.mem_cons.mp h with rfl | h
    · omega
    · have := maxL_ge h
      omega
theorem maxL_mem : ∀ (ns : List Nat), maxL ns ∈ ns ∨ maxL ns = 0
  | [] => .inr rfl
  | x :: r => by
    have e : maxL (x :: r) = max x (maxL r) := rfl
    rcases Nat.le_total (maxL r) x with h | h
    · exact .inl (by rw [e, Nat.max_eq_left h]; exact List.mem_cons_self)
    · rw [e, Nat.max_eq_right h]
      rcases maxL_mem r with h1 | h1
      · exact .inl (List.mem_cons_of_mem _ h1)
      · exact .inr h1
theorem max_is {ns : List Nat} {m : Int} (hm : m ∈ (ns.map fun (n : Nat) => (n : Int)) ++ [0]) (hb : ∀ y, y ∈ (ns.map fun (n : Nat) => (n : Int)) ++ [0] → y ≤ m) : m = (maxL ns : Nat) := by
  have h1 : (maxL ns : Int) ≤ m := by
    rcases maxL_mem ns with h | h
    · exact hb _ (List.mem_append.mpr (.inl (List.mem_map.mpr ⟨_, h, rfl⟩)))
    · rw [h]
      exact hb _ (List.mem_append.mpr (.inr (by simp)))
  have h2 : m ≤ (maxL ns : Int) := by
    rcases List.mem_append.mp hm with h | h
    · obtain ⟨n, hn, rfl⟩ := List.mem_map.mp h
      have := maxL_ge hn
      omega
    · rw [List.mem_singleton.mp h]
      omega
  omega
abbrev nts (ns : List Nat) : List V := ns.map fun (n : Nat) => V.int (n : Int)
theorem nts_ints {ns : List Nat} : nts ns = (ns.map fun (n : Nat) => (n : Int)).map V.int := by
  rw [List.map_map]
  rfl
theorem filt_are {α : Type} {R : V → α → Prop} {p : α → Bool} {xs : List α} : ∀ (k : Nat) (ys : List V), k ≤ xs.length → AllAre (fun y (i : Nat) => ∃ s, xs[i]? = some s ∧ R y s) ys ((List.range k).filter fun i => (xs[i]?).any p) → AllAre R ys ((xs.take k).filter p)
  | 0, ys, _, h => by
    have : ys = [] := List.length_eq_zero_iff.mp h.1
    subst this
    exact .nil
  | k + 1, ys, hk, h => by
    have hx : xs[k]? = some xs[k] := List.getElem?_eq_getElem hk
    rw [List.range_succ, List.filter_append] at h
    rw [List.take_add_one, hx, List.filter_append]
    cases hp : p xs[k] with
    | false =>
      rw [List.filter_cons_of_neg (by rw [hx]; show ¬ (p xs[k] = true); rw [hp]; exact Bool.false_ne_true), List.filter_nil, List.append_nil] at h
      have e : ((some xs[k]).toList.filter p) = [] := by simp [hp]
      rw [e, List.append_nil]
      exact filt_are k ys (by omega) h
    | true =>
      rw [List.filter_cons_of_pos (by rw [hx]; exact hp), List.filter_nil] at h
      have e : ((some xs[k]).toList.filter p) = [xs[k]] := by simp [hp]
      rw [e]
      generalize hL : ((List.range k).filter fun i => (xs[i]?).any p) = L at h
      have hl : ys.length = L.length + 1 := by rw [h.1, List.length_append]; rfl
      have h1 := h.take L.length
      rw [List.take_left] at h1
      have h2 : AllAre R (ys.take L.length) ((xs.take k).filter p) := filt_are k _ (by omega) (by rw [hL]; exact h1)
      have hy : ys[L.length]? = some (ys[L.length]'(by omega)) := List.getElem?_eq_getElem (by omega)
      obtain ⟨s, es, rs⟩ := h.2 L.length _ k hy (by rw [List.getElem?_append_right (Nat.le_refl _), Nat.sub_self]; rfl)
      rw [hx] at es
      cases es
      have ey : ys = ys.take L.length ++ [ys[L.length]'(by omega)] := by
        rw [List.take_append_getElem (by omega), List.take_of_length_le (by omega)]
      rw [ey]
      exact h2.snoc rs
theorem are_nu {ds : List Nat} {ys : List V} {l : List Arg} (h : AllAre (fun y a => ∃ n, a = .nu n ∧ y = V.int (ds.getD n 0 : Nat)) ys l) : ys = nts (l.map (val ds)) := by
  refine List.ext_getElem? fun i => ?_
  by_cases hi : i < ys.length
  · obtain ⟨a, ha, n, rfl, e⟩ := h.at (List.getElem?_eq_getElem hi)
    rw [List.getElem?_eq_getElem hi, nts, List.map_map, List.getElem?_map, ha, e]
    rfl
  · have := h.1
    rw [List.getElem?_eq_none (by omega), List.getElem?_eq_none (by simp [nts]; omega)]
def spDepsOf (C : Addr) : Sp := fun vs H Q _ => ∃ (b : Addr) (xs : List V) (rs : List Rw), vs = [.ref b] ∧ H b = some (.lst xs) ∧ AllAre (IsRw (SB C) H) xs rs ∧ BkOk rs ∧ rs.length ≤ 300 ∧ ∀ H' p, Same H H' → H' p = some (.lst (nts (deps rs))) → Q (.ref p) H'
theorem ok_p_depths_of (T : Txt K mg) (hw : T.prm = w.params) : FnOk P w K mg base CX0 1 T.f_p_depths_of T.d_p_depths_of ["book"] (spDepsOf T.c_Share) := by
  refine T.F_p_depths_of.ok sc_p_depths_of (fun vs H Q E h => ?_) (fun cdv A outer s H vs Q E hr h => ?_)
  · obtain ⟨b, xs, rs, rfl, _⟩ := h
    rfl
  · obtain ⟨b, xs, rs, rfl, hb, av, ok, l3, q⟩ := h
    refine ⟨_, (pss_cons (ps_set (i := 1) sc_p_depths_of.nd rfl (.inr rfl) (pe_lst pa_nil))
 (pss_cons (ps_for PassesOwn.never rfl (pi_list (pv 0)) (pg_name (i := 2) sc_p_depths_of.nd rfl (.inl rfl))
  (pss_cons (ps_setLc (i := 3) (own := [("number", 4), ("kind", 5)]) (g := (gTup K 2 (gCons (gName 4) (gCons (gName 5) gNil)))) (tt := _) (by rfl) sc_p_depths_of.nd rfl rfl (sw_true rfl rfl rfl (by decide +kernel)) (RZ.pi_zipA (by rfl) T.z_zip (pa_cons (pe_slice sl_tup (pv 2) (po_some pe_int) po_none) (pa_cons (pe_ix ix_kdict (pe_glob (v := .ref T.u_FORMS) (by rfl) T.g_FORMS rfl) (pe_ix ix_tup (pv 2) pe_int (fun _ _ => rfl)) (fun _ _ => rfl)) pa_nil))) (blkOk_by (own := [("number", 4), ("kind", 5)]) (N := ["book", "depths", "row", "named", "number", "kind"]) (sc := defScope s_p_depths_of) (by decide +kernel)) (fun _ _ _ _ _ => by exact (pg_tup (by rfl) (pgs_cons (pg_name (i := 4) sc_p_depths_of.nd rfl (.inl rfl)) (pgs_cons (pg_name (i := 5) sc_p_depths_of.nd rfl (.inl rfl)) pgs_nil)))) (fun _ _ _ _ _ => by exact (pts_one (pt_cmpR op_eq (pv 5) pe_str (nomark _)))) (fun _ _ _ _ _ => by exact (pe_ix (ix_listK (K := K) rfl) (pv 1) (pv 4) (fun _ _ => rfl))))
 (pss_one (ps_expr (pe_bm PySem.F.plainAttrs_list PySem.F.slot_list_append PySem.F.type_list_append mt_append (pv 1) (pa_cons (pe_op op_add (pe_callB (cr_max rfl) (by rfl) T.z_max (by decide +kernel) (pa_cons (pe_op op_cat (pv 3) (pe_lst (pa_cons pe_int pa_nil))) pa_nil)) (pe_callTy call_int1 (by rfl) T.z_int (by decide +kernel) (pa_cons (pe_cmpR op_in_seq (pe_ix ix_tup (pv 2) pe_int (fun _ _ => rfl)) (pe_tup (pa_cons pe_str (pa_cons pe_str pa_nil))) (by with_unfolding_all rfl)) pa_nil))) pa_nil))))))
 (pss_one (ps_ret (pv 1))))), ?_⟩
    refine ⟨Nat.zero_le _, fun pd nd => ?_⟩
    have s0 := same_upd (o := .lst []) nd
    refine ⟨_, rfl, b, rfl, ⟨_, SqL.of (s0 _ _ hb)⟩, for_list (K := K) (a := b) (xs := xs) (fun i σ H' => ∃ z2 z3 z4 z5, σ = [some (.ref b), some (.ref pd), z2, z3, z4, z5] ∧ Same H H' ∧ H' pd = some (.lst (nts (deps (rs.take i))))) ⟨_, _, _, _, rfl, s0, upd_same⟩ (fun i σ H' _ h => ?_) (fun i x σ H1 hx h => ?_) (fun σ H' h => ?_)⟩
    · obtain ⟨_, _, _, _, _, s', _⟩ := h
      exact SqL.of (s' _ _ hb)
    · obtain ⟨z2, z3, z4, z5, rfl, s1, ed⟩ := h
      obtain ⟨r, hr', t, vs, rfl, ht, aa⟩ := av.at hx
      have rok := ok i r hr'
      have hi : i < rs.length := (List.getElem?_eq_some_iff.mp hr').1
      obtain ⟨tk, f1, f2, f3⟩ := form_at T hw rok.form
      have l2 := form_len rok
      have lv : vs.length = r.args.length := aa.1
      have ht1 := s1 _ _ ht
      have sq : SqT K H1 t (.str r.word :: vs) := .inl (.inl ht1)
      have dl : (deps (rs.take i)).length = i := by rw [deps_len, List.length_take]; omega
      refine ⟨_, rfl, 1, rfl, t, _, rfl, sq, tail_part _ _, fun p np => ?_⟩
      rw [cut_tail]
      have sp := same_upd (o := .tup vs) np
      have ep : (upd H1 p (.tup vs)) p = some (.tup vs) := upd_same
      have ht2 := sp _ _ ht1
      have ed2 := sp _ _ ed
      generalize upd H1 p (.tup vs) = H2 at *
      have sq2 : SqT K H2 t (.str r.word :: vs) := .inl (.inl ht2)
      have lk : ((r.args.map kindA).map V.str).length = r.args.length := by simp
      refine ⟨_, rfl, t, _, _, _, rfl, rfl, sq2, atI_nat (j := 0) rfl, T.u_FORMS, r.word, .ref tk, rfl, rfl, f2, p, tk, _, _, rfl, .inr ⟨.inl (.inl ep), f3.sq, fun D nD => ?_⟩⟩
      refine lc_filtW (walk_zipT (K := K) (a := p) (b := tk) (xs := vs) (ys := (r.args.map kindA).map V.str) (n := r.args.length) (by rw [lk, lv, Nat.min_self])) (fun j => (r.args[j]?).any isNu) (fun j y _ => ∃ a, r.args[j]? = some a ∧ ∃ n, a = .nu n ∧ y = .int ((deps (rs.take i)).getD n 0 : Nat)) (fun _ _ _ _ _ h => h) nD (fun H' s => ⟨.inl (.inl (s _ _ ep)), f3.sq⟩) (by omega) (fun j x H3 H4 kt kf hj s3 eD3 y hkt hkf => ?_) (fun H3 ys s3 e3 a3 => ?_)
      · obtain ⟨tt, x1, y1, rfl, nt, rfl, ex, ey⟩ := y
        have ey : ((r.args.map kindA).map V.str)[j]? = some y1 := ey
        rw [List.getElem?_map, List.getElem?_map] at ey
        obtain ⟨a, ha, hx1⟩ := aa.at (show vs[j]? = some x1 from ex)
        rw [ha] at ey
        obtain rfl : V.str (kindA a) = y1 := Option.some.inj ey
        simp only [ha, Option.any_some] at hkt hkf
        have st := same_upd (o := .tup [x1, .str (kindA a)]) nt
        refine ⟨tt, _, rfl, .inl (.inl upd_same), rfl, _, _, rfl, _, _, rfl, rfl, rfl, ?_⟩
        refine ⟨_, rfl, rfl, _, rfl, ?_⟩
        cases a with
        | sg z => exact iteF (hkf rfl _ st)
        | sh z => exact iteF (hkf rfl _ st)
        | nu n =>
          obtain rfl : x1 = .int (n : Int) := hx1
          have hn : n < i := rok.args _ (List.mem_of_getElem? ha)
          have ed4 := st _ _ (hid_same _ _ (s3 _ _ ed2))
          refine iteT ⟨_, rfl, _, rfl, pd, _, (n : Int), .int ((deps (rs.take i)).getD n 0 : Nat), rfl, rfl, SqL.of ed4, atI_nat ?_, hkt rfl _ _ st ⟨_, rfl, n, rfl, rfl⟩⟩
          rw [List.getElem?_map, List.getD_eq_getElem?_getD, List.getElem?_eq_getElem (by omega)]
          rfl
      · have h1 := filt_are (R := fun y a => ∃ n, a = Arg.nu n ∧ y = V.int ((deps (rs.take i)).getD n 0 : Nat)) (p := isNu) r.args.length ys (Nat.le_refl _) a3
        rw [List.take_length] at h1
        rw [are_nu h1] at e3
        have s23 : Same H2 H3 := s3.trans hid_same
        have ed3 := s23 _ _ ed2
        have ht3 := s23 _ _ ht2
        have npd : D ≠ pd := fun z => by
          rw [z, ed2] at nD
          cases nD
        have fl : (r.args.filter isNu).length ≤ 2 := Nat.le_trans (List.length_filter_le _ _) l2
        refine ⟨_, rfl, .inl ⟨rfl, _, SqL.of ed3⟩, _, rfl, by show 1 ≤ sizeLine; decide, fun c nc => ?_⟩
        have sc := same_upd (o := .lst [.int 0]) nc
        refine ⟨D, c, _, _, rfl, rfl, sc _ _ e3, upd_same, ?_, fun c2 nc2 => ?_⟩
        · rw [List.length_map, List.length_map]
          exact Nat.le_of_lt (small1000 (by show _ + 1 ≤ 1000; omega))
        have sc2 := same_upd (o := .lst (nts ((r.args.filter isNu).map (val (deps (rs.take i)))) ++ [.int 0])) nc2
        refine ⟨c2, (((r.args.filter isNu).map (val (deps (rs.take i)))).map fun (n : Nat) => (n : Int)) ++ [0], rfl, SqL.of ?_, by simp, fun m hm hbm => ?_⟩
        · rw [upd_same, List.map_append, nts_ints]
          rfl
        have em := max_is hm hbm
        subst em
        have s4 : Same H3 (upd (upd H3 c (.lst [.int 0])) c2 (.lst (nts ((r.args.filter isNu).map (val (deps (rs.take i)))) ++ [.int 0]))) := sc.trans sc2
        generalize upd (upd H3 c (.lst [.int 0])) c2 (.lst (nts ((r.args.filter isNu).map (val (deps (rs.take i)))) ++ [.int 0])) = H4 at *
        refine ⟨_, rfl, t, _, _, _, rfl, rfl, .inl (.inl (s4 _ _ ht3)), atI_nat (j := 0) rfl, by show 2 ≤ sizeLine; decide, fun c3 nc3 => ?_⟩
        have sc3 := same_upd (o := .tup [.str "can", .str "on"]) nc3
        refine ⟨c3, _, rfl, .inr (.inl (.inl upd_same)), rfl, rfl, .inr ⟨_, rfl, _, _, rfl, rfl, pd, _, _, rfl, rfl, sc3 _ _ (s4 _ _ ed3), ?_, ?_⟩⟩
        · rw [List.length_map, dl]
          exact small1000 (by omega)
        refine ⟨_, _, _, _, rfl, ?_, ?_⟩
        · exact same_over (s1.trans (sp.trans (s23.trans (s4.trans sc3)))) nd
        · rw [upd_same]
          have et : rs.take (i + 1) = rs.take i ++ [r] := by rw [List.take_add_one, hr']; rfl
          rw [et, deps_snoc]
          unfold nts dep upW
          rw [List.map_append]
          generalize inV (V.str r.word) [V.str "can", V.str "on"] = bb
          cases bb <;> simp
    · obtain ⟨z2, z3, z4, z5, rfl, s1, ed⟩ := h
      rw [av.1, List.take_length] at ed
      exact ⟨_, rfl, q H' pd s1 ed⟩
def lastD (rs : List Rw) : Nat := (deps rs).getLast?.getD 0
def spDeep (C : Addr) : Sp := fun vs H Q _ => ∃ (b : Addr) (xs : List V) (rs : List Rw), vs = [.ref b] ∧ H b = some (.lst xs) ∧ AllAre (IsRw (SB C) H) xs rs ∧ BkOk rs ∧ rs ≠ [] ∧ rs.length ≤ 300 ∧ ∀ H', Same H H' → Q (.int (lastD rs : Nat)) H'
theorem last_at {rs : List Rw} (ne : rs ≠ []) : atI (nts (deps rs)) (-1) = some (.int (lastD rs : Nat)) := by
  obtain ⟨r0, r, rfl⟩ : ∃ r0 r, rs = r0 ++ [r] := ⟨rs.dropLast, rs.getLast ne, (List.dropLast_concat_getLast ne).symm⟩
  unfold lastD
  rw [deps_snoc, nts, List.map_append]
  simp only [List.map_cons, List.map_nil]
  rw [atI_last]
  simp
theorem ok_p_deep (T : Txt K mg) (hw : T.prm = w.params) : FnOk P w K mg base CX0 5 T.f_p_deep T.d_p_deep ["book"] (spDeep T.c_Share) := by
  refine T.F_p_deep.ok sc_p_deep (fun vs H Q E h => ?_) (fun cdv A outer s H vs Q E hr h => ?_)
  · obtain ⟨b, xs, rs, rfl, _⟩ := h
    rfl
  · obtain ⟨b, xs, rs, rfl, hb, av, ok, ne, l3, q⟩ := h
    refine ⟨_, (pss_cons (ps_expr (pe_call (ok_p_check_book T hw) (hr.mono (by decide)) (by rfl) T.g_p_check_book T.F_p_check_book.kp T.b_p_check_book .nil pass0 (pa_cons (pv 0) pa_nil)))
 (pss_one (ps_ret (pe_ix ix_list (pe_call (ok_p_depths_of T hw) (hr.mono (by decide)) (by rfl) T.g_p_depths_of T.F_p_depths_of.kp T.b_p_depths_of .nil pass0 (pa_cons (pv 0) pa_nil)) (pe_un un_neg pe_int) (fun _ _ => rfl))))), ?_⟩
    refine ⟨_, rfl, b, xs, rs, rfl, hb, av, ok, ne, l3, fun H1 s1 => ?_⟩
    refine ⟨_, rfl, b, xs, rs, rfl, s1 _ _ hb, av.imp fun _ _ h => h.mono (SB.m _) s1, ok, l3, fun H2 p s2 e2 => ?_⟩
    exact ⟨_, rfl, p, _, _, _, rfl, rfl, SqL.of e2, last_at ne, q H2 (s1.trans s2)⟩
end

end Fb

namespace Fb
open PySem PySem.Spec PyProof.Rows L2
section
variable {P : Program} {w : World} {K : PySem.W.Frag} {mg : Str → Option Value} {base : Heap}
/-! ### the law's lowest terms, and a share from 0 to 1 -/
def spLow : Sp := fun vs H Q _ => ∃ (t b : Int), vs = [.int t, .int b] ∧ 0 < b ∧ b.natAbs.log2 < 9000 ∧
  ∀ H' r, Same H H' → IsTup2 H' r (Rat.divInt t b).num ((Rat.divInt t b).den : Int) → Q r H'
theorem ok_l_low (T : Txt K mg) : FnOk P w K mg base CX0 1 T.f_l_low T.d_l_low ["_law_top", "_law_bottom"] spLow := by
  refine T.F_l_low.ok sc_l_low (fun vs H Q E h => ?_) (fun cdv A outer s H vs Q E hr h => ?_)
  · obtain ⟨t, b, rfl, _⟩ := h
    rfl
  · obtain ⟨t, b, rfl, b0, hl, q⟩ := h
    have hb : b ≠ 0 := by omega
    refine ⟨_, (pss_cons (ps_par (i := 2) (j := 3) (by rfl) sc_l_low.nd rfl rfl (by decide) rfl rfl (pa_cons (pe_callB call_abs (by rfl) T.z_abs (by decide +kernel) (pa_cons (pv 0) pa_nil)) (pa_cons (pv 1) pa_nil)) (by rfl))
 (pss_cons (ps_while PassesOwn.never (pt_cmpR op_ne (pv 3) pe_int (nomark _))
  (pss_one (ps_par (i := 2) (j := 3) (by rfl) sc_l_low.nd rfl rfl (by decide) rfl rfl (pa_cons (pv 3) (pa_cons (pe_op op_mod (pv 2) (pv 3)) pa_nil)) (by rfl))))
 (pss_one (ps_ret (pe_tup (pa_cons (pe_op op_fdivZ (pv 0) (pv 2)) (pa_cons (pe_op op_fdivZ (pv 1) (pv 2)) pa_nil))))))), ?_⟩
    refine ⟨_, rfl, t, rfl, _, rfl, _, _, rfl, ?_⟩
    refine ⟨fun m σ H' => ∃ x y : Int, σ = [some (.int t), some (.int b), some (.int x), some (.int y)] ∧ m = y.toNat ∧ 0 ≤ x ∧ 0 ≤ y ∧ Int.gcd x y = Int.gcd t b ∧ H' = H, ⟨_, (if t < 0 then -t else t), b, rfl, rfl, by split <;> omega, by omega, ?_, rfl⟩, fun m σ H' hW => ?_⟩
    · split <;> simp [Int.neg_gcd]
    · obtain ⟨x, y, rfl, rfl, x0, y0, hg, rfl⟩ := hW
      refine ⟨_, rfl, rfl, _, rfl, ite2 (fun h => ?_) (fun h => ?_)⟩
      · have hy : 0 < y := by
          have : ¬ y = 0 := fun z => by
            rw [z] at h
            exact absurd h (by decide)
          omega
        refine ⟨fun σ' H'' => σ' = [some (.int t), some (.int b), some (.int y), some (.int (x % y))] ∧ H'' = H', fun σ' H'' h => ?_, ?_⟩
        · obtain ⟨rfl, rfl⟩ := h
          have e1 := Int.emod_nonneg x (Int.ne_of_gt hy)
          have e2 := Int.emod_lt_of_pos x hy
          refine ⟨_, by omega, y, _, rfl, rfl, y0, e1, ?_, rfl⟩
          rw [← hg, ← gcd_step x y, Int.fmod_eq_emod_of_nonneg x y0]
        · exact ⟨_, rfl, _, rfl, _, rfl, _, _, rfl, rfl, hy, _, _, rfl, rfl, rfl⟩
      · have hy : y = 0 := by
          by_cases z : y = 0
          · exact z
          · exfalso
            apply h
            rw [decide_eq_false (fun e => z (V.int.inj e))]
            rfl
        subst hy
        have ec : x = cut t b := by
          unfold cut
          rw [if_neg (by omega), ← hg, Int.gcd_zero_right]
          omega
        have hd : ∀ i, CDivZ i (cut t b) := fun _ => ⟨cut_ne hb, Nat.lt_of_le_of_lt (log2_mono (cut_le hb)) hl⟩
        rw [ec]
        refine ⟨_, rfl, _, rfl, _, _, rfl, rfl, hd _, _, rfl, _, rfl, _, _, rfl, rfl, hd _, by show 2 ≤ sizeLine; decide, fun p np => ?_⟩
        refine q _ _ (same_upd np) ⟨p, rfl, ?_⟩
        dsimp only
        rw [upd_same, cut_top hb, cut_bottom hb]
theorem low_unit {t b : Int} (t0 : 0 ≤ t) (tb : t ≤ b) (b0 : 0 < b) : 0 ≤ (Rat.divInt t b).num ∧ (Rat.divInt t b).num ≤ ((Rat.divInt t b).den : Int) := by
  have hb : b ≠ 0 := by omega
  have g0 : 0 < cut t b := by
    have h1 : cut t b = (Int.gcd t b : Int) := by
      unfold cut
      rw [if_neg (by omega)]
    have h2 := cut_ne (t := t) hb
    rw [h1] at h2 ⊢
    omega
  rw [← cut_top hb, ← cut_bottom hb, Int.fdiv_eq_ediv_of_nonneg _ (by omega), Int.fdiv_eq_ediv_of_nonneg _ (by omega)]
  exact ⟨Int.ediv_nonneg t0 (by omega), Int.ediv_le_ediv g0 tb⟩
def spShr : Sp := fun vs H Q _ => ∃ (a : Addr) (n : Nat), vs = [.ref a] ∧ WellAt H a (n + 3) ∧ ∀ (q : Rat) v H', 0 ≤ q.num → q.num ≤ (q.den : Int) → Bd 100 q → Same (hid a H) (hid a H') → WellAt H' a n → IsTup2 (hid a H') v q.num (q.den : Int) → Q v H'
theorem three_at {i : Nat} {x : V} (h : [V.int 3, V.int 9, V.int 60][i]? = some x) : ∃ l : Nat, 1 ≤ l ∧ l ≤ 60 ∧ x = .int l := by
  match i with
  | 0 => cases h; exact ⟨3, by omega, by omega, rfl⟩
  | 1 => cases h; exact ⟨9, by omega, by omega, rfl⟩
  | 2 => cases h; exact ⟨60, by omega, by omega, rfl⟩
  | k + 3 => cases h
theorem small_log {b : Int} (b0 : 0 ≤ b) (h : b ≤ 1000) : b.natAbs.log2 < 9000 := by
  have := log_small (m := b.natAbs) (by omega)
  simpa using this
theorem small_bd {b : Int} (b0 : 0 ≤ b) (h : b ≤ 1000) : b.natAbs < 2 ^ 100 := Nat.lt_of_le_of_lt (show b.natAbs ≤ 1000 by omega) (by decide)
theorem ok_l_share (T : Txt K mg) : FnOk P w K mg base CX0 3 T.f_l_share T.d_l_share ["_law_well_here"] spShr := by
  refine T.F_l_share.ok sc_l_share (fun vs H Q E h => ?_) (fun cdv A outer s H vs Q E hr h => ?_)
  · obtain ⟨a, n, rfl, _⟩ := h
    rfl
  · obtain ⟨a, n, rfl, hw', q⟩ := h
    refine ⟨_, (pss_cons (ps_set (i := 1) sc_l_share.nd rfl (.inl rfl) (pe_op op_add pe_int (pe_call (ok_l_draw T) (hr.mono (by decide)) (by rfl) T.g_l_draw T.F_l_draw.kp T.b_l_draw .nil pass0 (pa_cons (pv 0) (pa_cons (pe_call (ok_l_one T) (hr.mono (by decide)) (by rfl) T.g_l_one T.F_l_one.kp T.b_l_one .nil pass0 (pa_cons (pv 0) (pa_cons (pe_lst (pa_cons pe_int (pa_cons pe_int (pa_cons pe_int pa_nil)))) pa_nil))) pa_nil)))))
 (pss_one (ps_ret (pe_call (ok_l_low T) (hr.mono (by decide)) (by rfl) T.g_l_low T.F_l_low.kp T.b_l_low .nil pass0 (pa_cons (pe_call (ok_l_draw T) (hr.mono (by decide)) (by rfl) T.g_l_draw T.F_l_draw.kp T.b_l_draw .nil pass0 (pa_cons (pv 0) (pa_cons (pe_op op_add (pv 1) pe_int) pa_nil))) (pa_cons (pv 1) pa_nil)))))), ?_⟩
    refine ⟨_, rfl, _, rfl, by show 3 ≤ sizeLine; decide, fun p1 n1 => ?_⟩
    obtain ⟨w1, s1⟩ := well_new (o := .lst [.int 3, .int 9, .int 60]) hw' n1
    refine ⟨a, p1, _, n + 2, rfl, w1, sqL_hid hw' n1, by show 0 < 3; decide, by show 3 ≤ 1000; decide, fun i2 x2 H2 hx2 s2 w2 => ?_⟩
    obtain ⟨l, l1, l60, rfl⟩ := three_at hx2
    refine ⟨a, l, n + 1, rfl, w2, by omega, small_log (by omega) (by omega), fun d H3 d0 d1 s3 w3 => ⟨_, _, rfl, rfl, ?_⟩⟩
    refine ⟨_, rfl, _, rfl, _, _, rfl, rfl, a, _, n, rfl, w3, ?_, ?_, fun e H4 e0 e1 s4 w4 => ?_⟩
    · show 0 < 1 + d + 1
      omega
    · exact small_log (by show 0 ≤ 1 + d + 1; omega) (by show 1 + d + 1 ≤ 1000; omega)
    have e1 : e < 1 + d + 1 := e1
    refine ⟨_, rfl, e, 1 + d, rfl, by omega, small_log (by omega) (by omega), fun H5 r s5 h5 => ?_⟩
    obtain ⟨u1, u2⟩ := low_unit e0 (show e ≤ 1 + d by omega) (by omega)
    have w5 := w4.same s5
    obtain ⟨p5, e5, h5⟩ := h5
    exact q _ _ _ u1 u2 (Bd.divInt (n := 100) (by omega) (small_bd e0 (by omega)) (small_bd (by omega) (by omega))) (s1.trans (s2.trans (s3.trans (s4.trans (hid_mono s5))))) w5 ⟨p5, e5, hid_keep w5 h5 (fun _ => nofun)⟩
/-! ### a row -/
theorem alloc {H : Hp} {a p : Addr} {n : Nat} {o : HO} (wl : WellAt H a n) (np : H p = none) : WellAt (upd H p o) a n ∧ Same (hid a H) (hid a (upd H p o)) ∧ hid a (upd H p o) p = some o := by
  obtain ⟨w1, s1⟩ := well_new (o := o) wl np
  exact ⟨w1, s1, by rw [hid_ne (wl.ne np)]; exact upd_same⟩
theorem f_one : (("one" : Str), ([] : List Str)) ∈ forms := by simp [forms]
theorem f_can : (("can" : Str), (["sign"] : List Str)) ∈ forms := by simp [forms]
theorem f_on : (("on" : Str), (["sign", "number"] : List Str)) ∈ forms := by simp [forms]
theorem f_not : (("not" : Str), (["number"] : List Str)) ∈ forms := by simp [forms]
theorem f_less : (("less" : Str), (["number", "share"] : List Str)) ∈ forms := by simp [forms]
theorem f_both : (("both" : Str), (["number", "number"] : List Str)) ∈ forms := by simp [forms]
theorem f_either : (("either" : Str), (["number", "number"] : List Str)) ∈ forms := by simp [forms]
theorem rw0 {S : ShR} {G : Hp} {t : Addr} {z : Str} (h : G t = some (.tup [.str z])) : IsRw S G (.ref t) ⟨z, []⟩ := ⟨t, [], rfl, h, .nil⟩
theorem rw1 {S : ShR} {G : Hp} {t : Addr} {z : Str} {x : V} {a : Arg} (h : G t = some (.tup [.str z, x])) (hx : IsArg S G x a) : IsRw S G (.ref t) ⟨z, [a]⟩ := ⟨t, [x], rfl, h, .cons hx .nil⟩
theorem rw2 {S : ShR} {G : Hp} {t : Addr} {z : Str} {x y : V} {a b : Arg} (h : G t = some (.tup [.str z, x, y])) (hx : IsArg S G x a) (hy : IsArg S G y b) : IsRw S G (.ref t) ⟨z, [a, b]⟩ := ⟨t, [x, y], rfl, h, .cons hx (.cons hy .nil)⟩
theorem ok0 {i : Nat} {z : Str} (h : (z, ([] : List Str)) ∈ forms) : RwOk i ⟨z, []⟩ := ⟨h, fun a ha => by cases ha⟩
theorem ok1 {i : Nat} {z k : Str} {a : Arg} (e : kindA a = k) (h : (z, [k]) ∈ forms) (o : ArgOk i a) : RwOk i ⟨z, [a]⟩ := ⟨by subst e; exact h, fun b hb => by rw [List.mem_singleton.mp hb]; exact o⟩
theorem ok2 {i : Nat} {z k k' : Str} {a a' : Arg} (e : kindA a = k) (e' : kindA a' = k') (h : (z, [k, k']) ∈ forms) (o : ArgOk i a) (o' : ArgOk i a') : RwOk i ⟨z, [a, a']⟩ := by
  refine ⟨by subst e; subst e'; exact h, fun b hb => ?_⟩
  rcases List.mem_cons.mp hb with rfl | hb
  · exact o
  · rw [List.mem_singleton.mp hb]
    exact o'
def spRow : Sp := fun vs H Q _ => ∃ (a ps : Addr) (zs : List Str) (i n : Nat), vs = [.ref a, .ref ps, .int i] ∧ WellAt H a (n + 8) ∧ hid a H ps = some (.lst (zs.map V.str)) ∧ 0 < zs.length ∧ zs.length ≤ 10 ∧ (∀ z ∈ zs, NmOk z) ∧ i ≤ 300 ∧
  ∀ r v H', RwOk i r → Same (hid a H) (hid a H') → WellAt H' a n → IsRw SL (hid a H') v r → Q v H'
set_option maxHeartbeats 800000 in
theorem ok_l_row (T : Txt K mg) : FnOk P w K mg base CX0 4 T.f_l_row T.d_l_row ["_law_well_here", "_law_signs", "_law_at"] spRow := by
  refine T.F_l_row.ok sc_l_row (fun vs H Q E h => ?_) (fun cdv A outer s H vs Q E hr h => ?_)
  · obtain ⟨a, ps, zs, i, n, rfl, _⟩ := h
    rfl
  · obtain ⟨a, ps, zs, i, n, rfl, w0, hps, z0, z10, nz, i3, q⟩ := h
    refine ⟨_, (pss_cons (ps_set (i := 3) sc_l_row.nd rfl (.inl rfl) (pe_call (ok_l_one T) (hr.mono (by decide)) (by rfl) T.g_l_one T.F_l_one.kp T.b_l_one .nil pass0 (pa_cons (pv 0) (pa_cons (pv 1) pa_nil))))
 (pss_cons (ps_if (pt_cmpR op_eq (pv 2) pe_int (nomark _))
  (pss_one (ps_ret (pe_call (ok_l_one T) (hr.mono (by decide)) (by rfl) T.g_l_one T.F_l_one.kp T.b_l_one .nil pass0 (pa_cons (pv 0) (pa_cons (pe_lst (pa_cons (pe_tup (pa_cons pe_str pa_nil)) (pa_cons (pe_tup (pa_cons pe_str (pa_cons (pv 3) pa_nil))) pa_nil))) pa_nil)))))
  pss_nil)
 (pss_cons (ps_set (i := 4) sc_l_row.nd rfl (.inl rfl) (pe_call (ok_l_one T) (hr.mono (by decide)) (by rfl) T.g_l_one T.F_l_one.kp T.b_l_one .nil pass0 (pa_cons (pv 0) (pa_cons (pe_lst (pa_cons (pe_op op_sub (pv 2) pe_int) (pa_cons (pe_call (ok_l_draw T) (hr.mono (by decide)) (by rfl) T.g_l_draw T.F_l_draw.kp T.b_l_draw .nil pass0 (pa_cons (pv 0) (pa_cons (pv 2) pa_nil))) pa_nil))) pa_nil))))
 (pss_cons (ps_set (i := 5) sc_l_row.nd rfl (.inl rfl) (pe_call (ok_l_draw T) (hr.mono (by decide)) (by rfl) T.g_l_draw T.F_l_draw.kp T.b_l_draw .nil pass0 (pa_cons (pv 0) (pa_cons (pv 2) pa_nil))))
 (pss_cons (ps_set (i := 6) sc_l_row.nd rfl (.inl rfl) (pe_lst (pa_cons (pe_tup (pa_cons pe_str pa_nil)) (pa_cons (pe_tup (pa_cons pe_str (pa_cons (pv 3) pa_nil))) (pa_cons (pe_tup (pa_cons pe_str (pa_cons (pv 3) (pa_cons (pv 4) pa_nil)))) (pa_cons (pe_tup (pa_cons pe_str (pa_cons (pv 3) (pa_cons (pv 4) pa_nil)))) (pa_cons (pe_tup (pa_cons pe_str (pa_cons (pv 3) (pa_cons (pv 4) pa_nil)))) (pa_cons (pe_tup (pa_cons pe_str (pa_cons (pv 4) pa_nil))) pa_nil))))))))
 (pss_cons (ps_set (i := 6) sc_l_row.nd rfl (.inl rfl) (pe_op op_cat (pv 6) (pe_lst (pa_cons (pe_tup (pa_cons pe_str (pa_cons (pv 4) pa_nil))) (pa_cons (pe_tup (pa_cons pe_str (pa_cons (pv 4) (pa_cons (pe_call (ok_l_share T) (hr.mono (by decide)) (by rfl) T.g_l_share T.F_l_share.kp T.b_l_share .nil pass0 (pa_cons (pv 0) pa_nil)) pa_nil)))) (pa_cons (pe_tup (pa_cons pe_str (pa_cons (pv 4) (pa_cons (pv 5) pa_nil)))) pa_nil))))))
 (pss_one (ps_ret (pe_call (ok_l_one T) (hr.mono (by decide)) (by rfl) T.g_l_one T.F_l_one.kp T.b_l_one .nil pass0 (pa_cons (pv 0) (pa_cons (pe_op op_cat (pv 6) (pe_lst (pa_cons (pe_tup (pa_cons pe_str (pa_cons (pv 4) (pa_cons (pv 5) pa_nil)))) pa_nil))) pa_nil))))))))))), ?_⟩
    refine ⟨_, rfl, _, rfl, a, ps, _, n + 7, rfl, w0, SqL.of hps, by rw [List.length_map]; exact z0, by rw [List.length_map]; omega, fun j x H1 hx s1 w1 => ?_⟩
    rw [List.getElem?_map] at hx
    obtain ⟨z, hz, rfl⟩ := Option.map_eq_some_iff.mp hx
    have nmz := nz z (List.mem_of_getElem? hz)
    refine ⟨_, rfl, rfl, _, rfl, ite2 (fun h => ?_) (fun h => ?_)⟩
    · have i0 : i = 0 := by
        have := V.int.inj (of_decide_eq_true h)
        omega
      subst i0
      refine ⟨_, rfl, by show 1 ≤ sizeLine; decide, fun t1 n1 => ?_⟩
      obtain ⟨w2, s2, f1⟩ := alloc (o := .tup [.str "one"]) w1 n1
      refine ⟨_, rfl, by show 2 ≤ sizeLine; decide, fun t2 n2 => ?_⟩
      obtain ⟨w3, s3, f2⟩ := alloc (o := .tup [.str "can", .str z]) w2 n2
      refine ⟨by show 2 ≤ sizeLine; decide, fun p np => ?_⟩
      obtain ⟨w4, s4, f3⟩ := alloc (o := .lst [.ref t1, .ref t2]) w3 np
      refine ⟨a, p, _, n + 6, rfl, w4, sqL_hid w3 np, by show 0 < 2; decide, by show 2 ≤ 1000; decide, fun j2 x2 H5 hx2 s5 w5 => ?_⟩
      have hm : x2 = .ref t1 ∨ x2 = .ref t2 := by simpa using List.mem_of_getElem? hx2
      have sA := s1.trans (s2.trans (s3.trans (s4.trans s5)))
      rcases hm with rfl | rfl
      · exact q ⟨"one", []⟩ _ _ (ok0 f_one) sA (w5.mono (by omega)) (rw0 (s5 _ _ (s4 _ _ (s3 _ _ f1))))
      · exact q ⟨"can", [.sg z]⟩ _ _ (ok1 rfl f_can nmz) sA (w5.mono (by omega)) (rw1 (s5 _ _ (s4 _ _ f2)) rfl)
    · have i0 : 0 < i := by
        rcases Nat.eq_zero_or_pos i with z | z
        · exfalso
          apply h
          rw [z]
          exact decide_eq_true rfl
        · exact z
      refine ⟨_, rfl, _, rfl, _, _, rfl, rfl, _, rfl, _, rfl, a, i, n + 6, rfl, w1, by omega, small_log (by omega) (by omega), fun d H2 d0 d1 s2 w2 => ?_⟩
      refine ⟨by show 2 ≤ sizeLine; decide, fun p2 np2 => ?_⟩
      obtain ⟨w3, s3, _⟩ := alloc (o := .lst [.int ((i : Int) - 1), .int d]) w2 np2
      refine ⟨a, p2, _, n + 5, rfl, w3, sqL_hid w2 np2, by show 0 < 2; decide, by show 2 ≤ 1000; decide, fun j4 x4 H4 hx4 s4 w4 => ?_⟩
      obtain ⟨k, rfl, ki⟩ : ∃ k : Nat, x4 = .int (k : Int) ∧ k < i := by
        have hm : x4 = .int ((i : Int) - 1) ∨ x4 = .int d := by simpa using List.mem_of_getElem? hx4
        rcases hm with rfl | rfl
        · exact ⟨i - 1, congrArg V.int (by omega), by omega⟩
        · exact ⟨d.toNat, congrArg V.int (by omega), by omega⟩
      refine ⟨_, rfl, _, rfl, a, i, n + 4, rfl, w4, by omega, small_log (by omega) (by omega), fun d' H5 d0' d1' s5 w5 => ?_⟩
      obtain ⟨e, he, ei⟩ : ∃ e : Nat, d' = (e : Int) ∧ e < i := ⟨d'.toNat, by omega, by omega⟩
      subst he
      have sA := s1.trans (s2.trans (s3.trans (s4.trans s5)))
      clear s1 s2 s3 s4 s5 w1 w2 w3 w4 h d0 d1 d0' d1' hx4
      -- the ten rows
      refine ⟨by show 1 ≤ sizeLine; decide, fun t1 n1 => ?_⟩
      obtain ⟨w6, s6, f1⟩ := alloc (o := .tup [.str "one"]) w5 n1
      refine ⟨_, rfl, by show 2 ≤ sizeLine; decide, fun t2 n2 => ?_⟩
      obtain ⟨w7, s7, f2⟩ := alloc (o := .tup [.str "can", .str z]) w6 n2
      refine ⟨_, rfl, _, rfl, by show 3 ≤ sizeLine; decide, fun t3 n3 => ?_⟩
      obtain ⟨w8, s8, f3⟩ := alloc (o := .tup [.str "on", .str z, .int (k : Int)]) w7 n3
      refine ⟨_, rfl, _, rfl, by show 3 ≤ sizeLine; decide, fun t4 n4 => ?_⟩
      obtain ⟨w9, s9, f4⟩ := alloc (o := .tup [.str "on", .str z, .int (k : Int)]) w8 n4
      refine ⟨_, rfl, _, rfl, by show 3 ≤ sizeLine; decide, fun t5 n5 => ?_⟩
      obtain ⟨w10, s10, f5⟩ := alloc (o := .tup [.str "on", .str z, .int (k : Int)]) w9 n5
      refine ⟨_, rfl, by show 2 ≤ sizeLine; decide, fun t6 n6 => ?_⟩
      obtain ⟨w11, s11, f6⟩ := alloc (o := .tup [.str "not", .int (k : Int)]) w10 n6
      refine ⟨by show 6 ≤ sizeLine; decide, fun p1 np1 => ?_⟩
      obtain ⟨w12, s12, g1⟩ := alloc (o := .lst [.ref t1, .ref t2, .ref t3, .ref t4, .ref t5, .ref t6]) w11 np1
      refine ⟨_, rfl, _, rfl, by show 2 ≤ sizeLine; decide, fun t7 n7 => ?_⟩
      obtain ⟨w13, s13, f7⟩ := alloc (o := .tup [.str "not", .int (k : Int)]) w12 n7
      refine ⟨_, rfl, _, rfl, a, n + 1, rfl, w13, fun qq vq H14 u1 u2 ub s14 w14 hq => ?_⟩
      refine ⟨by show 3 ≤ sizeLine; decide, fun t8 n8 => ?_⟩
      obtain ⟨w15, s15, f8⟩ := alloc (o := .tup [.str "less", .int (k : Int), vq]) w14 n8
      refine ⟨_, rfl, _, rfl, by show 3 ≤ sizeLine; decide, fun t9 n9 => ?_⟩
      obtain ⟨w16, s16, f9⟩ := alloc (o := .tup [.str "both", .int (k : Int), .int (e : Int)]) w15 n9
      refine ⟨by show 3 ≤ sizeLine; decide, fun p3 np3 => ?_⟩
      obtain ⟨w17, s17, g3⟩ := alloc (o := .lst [.ref t7, .ref t8, .ref t9]) w16 np3
      have g1' := hid_same _ _ (s17 _ _ (s16 _ _ (s15 _ _ (s14 _ _ (s13 _ _ g1)))))
      refine ⟨p1, p3, _, _, rfl, rfl, g1', hid_same _ _ g3, Nat.le_of_lt (small1000 (by show 6 + 3 ≤ 1000; decide)), fun p4 np4 => ?_⟩
      obtain ⟨w18, s18, g4⟩ := alloc (o := .lst [.ref t1, .ref t2, .ref t3, .ref t4, .ref t5, .ref t6, .ref t7, .ref t8, .ref t9]) w17 np4
      refine ⟨_, rfl, _, rfl, _, rfl, _, rfl, by show 3 ≤ sizeLine; decide, fun t10 n10 => ?_⟩
      obtain ⟨w19, s19, f10⟩ := alloc (o := .tup [.str "either", .int (k : Int), .int (e : Int)]) w18 n10
      refine ⟨by show 1 ≤ sizeLine; decide, fun p5 np5 => ?_⟩
      obtain ⟨w20, s20, g5⟩ := alloc (o := .lst [.ref t10]) w19 np5
      refine ⟨p4, p5, _, _, rfl, rfl, hid_same _ _ (s20 _ _ (s19 _ _ g4)), hid_same _ _ g5, Nat.le_of_lt (small1000 (by show 9 + 1 ≤ 1000; decide)), fun p6 np6 => ?_⟩
      obtain ⟨w21, s21, g6⟩ := alloc (o := .lst [.ref t1, .ref t2, .ref t3, .ref t4, .ref t5, .ref t6, .ref t7, .ref t8, .ref t9, .ref t10]) w20 np6
      refine ⟨a, p6, [.ref t1, .ref t2, .ref t3, .ref t4, .ref t5, .ref t6, .ref t7, .ref t8, .ref t9, .ref t10], n, rfl, w21, SqL.of g6, by show 0 < 10; decide, by show 10 ≤ 1000; decide, fun j7 x7 H22 hx7 s22 w22 => ?_⟩
      have c20 := s20.trans (s21.trans s22)
      have c17 := s17.trans (s18.trans (s19.trans c20))
      have c15 := s15.trans (s16.trans c17)
      have c13 := s13.trans (s14.trans c15)
      have c12 := s12.trans c13
      have fin := sA.trans (s6.trans (s7.trans (s8.trans (s9.trans (s10.trans (s11.trans c12))))))
      have hm : x7 = .ref t1 ∨ x7 = .ref t2 ∨ x7 = .ref t3 ∨ x7 = .ref t4 ∨ x7 = .ref t5 ∨ x7 = .ref t6 ∨ x7 = .ref t7 ∨ x7 = .ref t8 ∨ x7 = .ref t9 ∨ x7 = .ref t10 := by simpa using List.mem_of_getElem? hx7
      rcases hm with rfl | rfl | rfl | rfl | rfl | rfl | rfl | rfl | rfl | rfl
      · exact q ⟨"one", []⟩ _ _ (ok0 f_one) fin w22 (rw0 ((s7.trans (s8.trans (s9.trans (s10.trans (s11.trans c12))))) _ _ f1))
      · exact q ⟨"can", [.sg z]⟩ _ _ (ok1 rfl f_can nmz) fin w22 (rw1 ((s8.trans (s9.trans (s10.trans (s11.trans c12)))) _ _ f2) rfl)
      · exact q ⟨"on", [.sg z, .nu k]⟩ _ _ (ok2 rfl rfl f_on nmz ki) fin w22 (rw2 ((s9.trans (s10.trans (s11.trans c12))) _ _ f3) rfl rfl)
      · exact q ⟨"on", [.sg z, .nu k]⟩ _ _ (ok2 rfl rfl f_on nmz ki) fin w22 (rw2 ((s10.trans (s11.trans c12)) _ _ f4) rfl rfl)
      · exact q ⟨"on", [.sg z, .nu k]⟩ _ _ (ok2 rfl rfl f_on nmz ki) fin w22 (rw2 ((s11.trans c12) _ _ f5) rfl rfl)
      · exact q ⟨"not", [.nu k]⟩ _ _ (ok1 rfl f_not ki) fin w22 (rw1 (c12 _ _ f6) rfl)
      · exact q ⟨"not", [.nu k]⟩ _ _ (ok1 rfl f_not ki) fin w22 (rw1 ((s14.trans c15) _ _ f7) rfl)
      · exact q ⟨"less", [.nu k, .sh qq]⟩ _ _ (ok2 rfl rfl f_less ki ⟨u1, u2, ub⟩) fin w22 (rw2 ((s16.trans c17) _ _ f8) rfl (IsTup2.mono hq c15))
      · exact q ⟨"both", [.nu k, .nu e]⟩ _ _ (ok2 rfl rfl f_both ki ei) fin w22 (rw2 (c17 _ _ f9) rfl rfl)
      · exact q ⟨"either", [.nu k, .nu e]⟩ _ _ (ok2 rfl rfl f_either ki ei) fin w22 (rw2 (c20 _ _ f10) rfl rfl)
end

end Fb

namespace Fb
open PySem PySem.Spec PyProof.Rows L2
section
variable {P : Program} {w : World} {K : PySem.W.Frag} {mg : Str → Option Value} {base : Heap}
/-! ### the seven forms -/
inductive Shape : Rw → Prop
  | one : Shape ⟨"one", []⟩
  | can (z : Str) : Shape ⟨"can", [.sg z]⟩
  | on (z : Str) (n : Nat) : Shape ⟨"on", [.sg z, .nu n]⟩
  | no (n : Nat) : Shape ⟨"not", [.nu n]⟩
  | less (n : Nat) (q : Rat) : Shape ⟨"less", [.nu n, .sh q]⟩
  | both (n m : Nat) : Shape ⟨"both", [.nu n, .nu m]⟩
  | either (n m : Nat) : Shape ⟨"either", [.nu n, .nu m]⟩
theorem kind_sg {a : Arg} (h : kindA a = "sign") : ∃ z, a = .sg z := by
  cases a with
  | sg z => exact ⟨z, rfl⟩
  | nu n => exact absurd (show ("number" : Str) = "sign" from h) (by decide +kernel)
  | sh q => exact absurd (show ("share" : Str) = "sign" from h) (by decide +kernel)
theorem kind_nu {a : Arg} (h : kindA a = "number") : ∃ n, a = .nu n := by
  cases a with
  | sg z => exact absurd (show ("sign" : Str) = "number" from h) (by decide +kernel)
  | nu n => exact ⟨n, rfl⟩
  | sh q => exact absurd (show ("share" : Str) = "number" from h) (by decide +kernel)
theorem kind_sh {a : Arg} (h : kindA a = "share") : ∃ q, a = .sh q := by
  cases a with
  | sg z => exact absurd (show ("sign" : Str) = "share" from h) (by decide +kernel)
  | nu n => exact absurd (show ("number" : Str) = "share" from h) (by decide +kernel)
  | sh q => exact ⟨q, rfl⟩
theorem map0 {l : List Arg} (h : l.map kindA = []) : l = [] := List.map_eq_nil_iff.mp h
theorem map1 {l : List Arg} {k : Str} (h : l.map kindA = [k]) : ∃ a, l = [a] ∧ kindA a = k := by
  match l, h with
  | [a], h => exact ⟨a, rfl, List.head_eq_of_cons_eq h⟩
theorem map2 {l : List Arg} {k k' : Str} (h : l.map kindA = [k, k']) : ∃ a b, l = [a, b] ∧ kindA a = k ∧ kindA b = k' := by
  match l, h with
  | [a, b], h => exact ⟨a, b, rfl, List.head_eq_of_cons_eq h, List.head_eq_of_cons_eq (List.tail_eq_of_cons_eq h)⟩
theorem RwOk.shape {i : Nat} {r : Rw} (h : RwOk i r) : Shape r := by
  obtain ⟨z, as⟩ := r
  have f : (z, as.map kindA) ∈ forms := h.form
  generalize hk : as.map kindA = ks at f
  simp only [forms, List.mem_cons, Prod.mk.injEq, List.not_mem_nil, or_false] at f
  rcases f with ⟨rfl, rfl⟩ | ⟨rfl, rfl⟩ | ⟨rfl, rfl⟩ | ⟨rfl, rfl⟩ | ⟨rfl, rfl⟩ | ⟨rfl, rfl⟩ | ⟨rfl, rfl⟩
  · rw [map0 hk]
    exact .one
  · obtain ⟨a, rfl, e⟩ := map1 hk
    obtain ⟨z, rfl⟩ := kind_sg e
    exact .can z
  · obtain ⟨a, b, rfl, e, e'⟩ := map2 hk
    obtain ⟨z, rfl⟩ := kind_sg e
    obtain ⟨n, rfl⟩ := kind_nu e'
    exact .on z n
  · obtain ⟨a, rfl, e⟩ := map1 hk
    obtain ⟨n, rfl⟩ := kind_nu e
    exact .no n
  · obtain ⟨a, b, rfl, e, e'⟩ := map2 hk
    obtain ⟨n, rfl⟩ := kind_nu e
    obtain ⟨q, rfl⟩ := kind_sh e'
    exact .less n q
  · obtain ⟨a, b, rfl, e, e'⟩ := map2 hk
    obtain ⟨n, rfl⟩ := kind_nu e
    obtain ⟨m, rfl⟩ := kind_nu e'
    exact .both n m
  · obtain ⟨a, b, rfl, e, e'⟩ := map2 hk
    obtain ⟨n, rfl⟩ := kind_nu e
    obtain ⟨m, rfl⟩ := kind_nu e'
    exact .either n m
theorem BkOk.snoc {rs : List Rw} {r : Rw} (h : BkOk rs) (o : RwOk rs.length r) : BkOk (rs ++ [r]) := fun i r' e => by
  by_cases hi : i < rs.length
  · rw [List.getElem?_append_left hi] at e
    exact h i r' e
  · rw [List.getElem?_append_right (by omega)] at e
    have : i - rs.length = 0 := by
      have := (List.getElem?_eq_some_iff.mp e).1
      simp at this
      omega
    rw [this] at e
    cases e
    have : i = rs.length := by omega
    rw [this]
    exact o
theorem BkOk.take {rs : List Rw} (h : BkOk rs) (k : Nat) : BkOk (rs.take k) := fun i r e => by
  rw [List.getElem?_take] at e
  split at e
  · exact h i r e
  · cases e
/-! ### rows -/
def spRows : Sp := fun vs H Q _ => ∃ (a ps : Addr) (zs : List Str) (n : Nat), vs = [.ref a, .ref ps, .int 14] ∧ WellAt H a (n + 113) ∧ hid a H ps = some (.lst (zs.map V.str)) ∧ 0 < zs.length ∧ zs.length ≤ 10 ∧ (∀ z ∈ zs, NmOk z) ∧
  ∀ H' p xs rs, BkOk rs → rs ≠ [] → rs.length ≤ 14 → Same (hid a H) (hid a H') → WellAt H' a n → hid a H' p = some (.lst xs) → AllAre (IsRw SL (hid a H')) xs rs → Q (.ref p) H'
theorem ok_l_rows (T : Txt K mg) : FnOk P w K mg base CX0 5 T.f_l_rows T.d_l_rows ["_law_well_here", "_law_signs", "_law_most"] spRows := by
  refine T.F_l_rows.ok sc_l_rows (fun vs H Q E h => ?_) (fun cdv A outer s H vs Q E hr h => ?_)
  · obtain ⟨a, ps, zs, n, rfl, _⟩ := h
    rfl
  · obtain ⟨a, ps, zs, n, rfl, w0, hps, z0, z10, nz, q⟩ := h
    refine ⟨_, (pss_cons (ps_set (i := 3) sc_l_rows.nd rfl (.inl rfl) (pe_lst pa_nil))
 (pss_cons (ps_for PassesOwn.never rfl (pi_range1 (by rfl) T.z_range (pa_cons (pe_op op_add pe_int (pe_call (ok_l_draw T) (hr.mono (by decide)) (by rfl) T.g_l_draw T.F_l_draw.kp T.b_l_draw .nil pass0 (pa_cons (pv 0) (pa_cons (pv 2) pa_nil)))) pa_nil)) (pg_name (i := 4) sc_l_rows.nd rfl (.inl rfl))
  (pss_one (ps_expr (pe_bm PySem.F.plainAttrs_list PySem.F.slot_list_append PySem.F.type_list_append mt_append (pv 3) (pa_cons (pe_call (ok_l_row T) (hr.mono (by decide)) (by rfl) T.g_l_row T.F_l_row.kp T.b_l_row .nil pass0 (pa_cons (pv 0) (pa_cons (pv 1) (pa_cons (pv 4) pa_nil)))) pa_nil)))))
 (pss_one (ps_ret (pv 3))))), ?_⟩
    refine ⟨Nat.zero_le _, fun pf nf => ?_⟩
    obtain ⟨w1, s1, f1⟩ := alloc (o := .lst []) w0 nf
    have pfa : pf ≠ a := w0.ne nf
    refine ⟨_, rfl, _, rfl, a, 14, n + 112, rfl, w1, by decide, by decide, fun d H2 d0 d1 s2 w2 => ⟨_, _, rfl, rfl, ?_⟩⟩
    obtain ⟨k, hk, k1, k14⟩ : ∃ k : Nat, 1 + d = (k : Int) ∧ 1 ≤ k ∧ k ≤ 14 := ⟨(1 + d).toNat, by omega, by omega, by omega⟩
    dsimp only
    rw [hk]
    have nfh : hid a H pf = none := by rw [hid_ne pfa]; exact nf
    refine ⟨k, rfl, by omega, by omega, ?_⟩
    refine for_range (lo := 0) (n := (k : Int).toNat) (tb := _) (D := { nx := tRet (tVar 3) { nx := fun _ H' => Q .non H', rt := Q }, rt := Q }) (fun j σ H' => ∃ (y : Option V) (xs : List V) (rs : List Rw), σ = [some (.ref a), some (.ref ps), some (.int 14), some (.ref pf), y] ∧ Same (hid a H) (hid a H') ∧ WellAt H' a (n + 8 * (14 - j)) ∧ hid a H' pf = some (.lst xs) ∧ AllAre (IsRw SL (hid a H')) xs rs ∧ BkOk rs ∧ rs.length = j) ⟨none, [], [], rfl, s1.trans s2, w2.mono (by omega), s2 _ _ f1, .nil, (fun i r e => by cases e), rfl⟩ (fun j σ H3 hj h => ?_) (fun σ H3 h => ?_)
    · obtain ⟨y, xs, rs, rfl, s3, w3, e3, a3, bk, lr⟩ := h
      rw [Int.toNat_natCast] at hj
      have e3' : H3 pf = some (.lst xs) := hid_same _ _ e3
      refine ⟨_, rfl, .inl ⟨rfl, _, SqL.of e3'⟩, _, rfl, _, rfl, _, rfl, a, ps, zs, j, n + 8 * (14 - (j + 1)), ?_, w3.mono (by omega), s3 _ _ hps, z0, z10, nz, by omega, fun r v H4 rok s4 w4 hv => ?_⟩
      · rw [Int.zero_add]
        rfl
      have e4 : hid a H4 pf = some (.lst xs) := s4 _ _ e3
      have e4' : H4 pf = some (.lst xs) := hid_same _ _ e4
      refine ⟨pf, _, _, rfl, rfl, e4', ?_, ?_⟩
      · have := a3.1
        exact small1000 (by omega)
      have ts : ∀ {x : V} {r : Rw}, IsRw SL (hid a H4) x r → IsRw SL (hid a (upd H4 pf (.lst (xs ++ [v])))) x r := fun {x r} h => by
        obtain ⟨t, vs, e, ht, av⟩ := h
        have ne : t ≠ pf := fun z => by
          rw [z, e4] at ht
          cases ht
        refine ⟨t, vs, e, by rw [hid_updN pfa, upd_ne ne]; exact ht, av.imp fun v' a' h' => ?_⟩
        cases a' with
        | sg z => exact h'
        | nu n => exact h'
        | sh qq =>
          obtain ⟨p', e', h'⟩ := h'
          have ne' : p' ≠ pf := fun z => by
            rw [z, e4] at h'
            cases h'
          exact ⟨p', e', by rw [hid_updN pfa, upd_ne ne']; exact h'⟩
      refine ⟨_, xs ++ [v], rs ++ [r], rfl, ?_, ?_, ?_, ?_, bk.snoc (by rw [lr]; exact rok), by rw [List.length_append, lr]; rfl⟩
      · rw [hid_updN pfa]
        exact same_over (s3.trans s4) nfh
      · obtain ⟨w0', w1', w2', ew, rest⟩ := w4
        exact ⟨w0', w1', w2', by rw [upd_ne pfa.symm]; exact ew, rest⟩
      · rw [hid_updN pfa]
        exact upd_same
      · exact AllAre.snoc (a3.imp fun _ _ h => ts (h.mono SL.m s4)) (ts hv)
    · obtain ⟨y, xs, rs, rfl, s3, w3, e3, a3, bk, lr⟩ := h
      rw [Int.toNat_natCast] at lr
      refine ⟨_, rfl, q H3 pf xs rs bk (fun z => ?_) (by omega) s3 (w3.mono (by omega)) e3 a3⟩
      rw [z] at lr
      simp at lr
      omega
/-! ### the book of rows -/
theorem plain_rw {C : Addr} {H : Hp} {v : V} {r : Rw} (h : IsRw SL H v r) (no : ∀ q, Arg.sh q ∉ r.args) : IsRw (SB C) H v r := by
  obtain ⟨t, vs, e, ht, av⟩ := h
  refine ⟨t, vs, e, ht, .of_ix av.1 fun i y hy => ?_⟩
  obtain ⟨a, ha, h⟩ := av.at hy
  refine ⟨a, ha, ?_⟩
  cases a with
  | sg z => exact h
  | nu n => exact h
  | sh q => exact absurd (List.mem_of_getElem? ha) (no q)
def spBook (C : Addr) : Sp := fun vs H Q _ => ∃ (p : Addr) (xs : List V) (rs : List Rw), vs = [.ref p] ∧ H p = some (.lst xs) ∧ AllAre (IsRw SL H) xs rs ∧ BkOk rs ∧ rs.length ≤ 300 ∧ ∀ H' b ys, Same H H' → H' b = some (.lst ys) → AllAre (IsRw (SB C) H') ys rs → Q (.ref b) H'
theorem ok_l_book (T : Txt K mg) : FnOk P w K mg base CX0 4 T.f_l_book T.d_l_book ["_law_rows_here"] (spBook T.c_Share) := by
  refine T.F_l_book.ok sc_l_book (fun vs H Q E h => ?_) (fun cdv A outer s H vs Q E hr h => ?_)
  · obtain ⟨p, xs, rs, rfl, _⟩ := h
    rfl
  · obtain ⟨p, xs, rs, rfl, hp, av, ok, l3, q⟩ := h
    refine ⟨_, (pss_cons (ps_set (i := 1) sc_l_book.nd rfl (.inl rfl) (pe_lst pa_nil))
 (pss_cons (ps_for PassesOwn.never rfl (pi_list (pv 0)) (pg_name (i := 2) sc_l_book.nd rfl (.inl rfl))
  (pss_cons (ps_if (pt_cmpR op_eq (pe_ix ix_tup (pv 2) pe_int (fun _ _ => rfl)) pe_str (nomark _))
  (pss_one (ps_set (i := 2) sc_l_book.nd rfl (.inl rfl) (pe_op op_catT (pe_slice sl_tup (pv 2) po_none (po_some pe_int)) (pe_tup (pa_cons (pe_make T.M_Share (ok_m_Share_init T) (hr.mono (by decide)) (by rfl) T.g_Share T.b_m_Share_init .nil pass0 (pa_cons (pe_ix ix_tup (pe_ix ix_tup (pv 2) pe_int (fun _ _ => rfl)) pe_int (fun _ _ => rfl)) (pa_cons (pe_ix ix_tup (pe_ix ix_tup (pv 2) pe_int (fun _ _ => rfl)) pe_int (fun _ _ => rfl)) pa_nil))) pa_nil)))))
  pss_nil)
 (pss_one (ps_expr (pe_bm PySem.F.plainAttrs_list PySem.F.slot_list_append PySem.F.type_list_append mt_append (pv 1) (pa_cons (pv 2) pa_nil))))))
 (pss_one (ps_ret (pv 1))))), ?_⟩
    refine ⟨Nat.zero_le _, fun pf nf => ?_⟩
    have s0 := same_upd (o := .lst []) nf
    refine ⟨_, rfl, p, rfl, ⟨_, SqL.of (s0 _ _ hp)⟩, for_list (K := K) (a := p) (xs := xs) (fun i σ H' => ∃ (y : Option V) (ys : List V), σ = [some (.ref p), some (.ref pf), y] ∧ Same H H' ∧ H' pf = some (.lst ys) ∧ AllAre (IsRw (SB T.c_Share) H') ys (rs.take i)) ⟨_, [], rfl, s0, upd_same, by rw [List.take_zero]; exact .nil⟩ (fun i σ H' _ h => ?_) (fun i x σ H1 hx h => ?_) (fun σ H' h => ?_)⟩
    · obtain ⟨_, _, _, s', _⟩ := h
      exact SqL.of (s' _ _ hp)
    · obtain ⟨y, ys, rfl, s1, e1, a1⟩ := h
      obtain ⟨r, hr', hx'⟩ := av.at hx
      have rok := ok i r hr'
      have hi : i < rs.length := (List.getElem?_eq_some_iff.mp hr').1
      have hx1 := hx'.mono SL.m s1
      have ly : ys.length = i := by rw [a1.1, List.length_take]; omega
      have et : rs.take (i + 1) = rs.take i ++ [r] := by rw [List.take_add_one, hr']; rfl
      -- the end of a turn
      have fin : ∀ (v : V) (H2 : Hp), Same H1 H2 → IsRw (SB T.c_Share) H2 v r → ∃ (y : Option V) (ys' : List V), [some (.ref p), some (.ref pf), some v] = [some (.ref p), some (.ref pf), y] ∧ Same H (upd H2 pf (.lst (ys ++ [v]))) ∧ (upd H2 pf (.lst (ys ++ [v]))) pf = some (.lst ys') ∧ AllAre (IsRw (SB T.c_Share) (upd H2 pf (.lst (ys ++ [v])))) ys' (rs.take (i + 1)) := fun v H2 s2 hv => by
        have e2 := s2 _ _ e1
        have ts : ∀ {x : V} {r : Rw}, IsRw (SB T.c_Share) H2 x r → IsRw (SB T.c_Share) (upd H2 pf (.lst (ys ++ [v]))) x r := fun {x r} h => by
          obtain ⟨t, vs, e, ht, av⟩ := h
          have ne : t ≠ pf := fun z => by
            rw [z, e2] at ht
            cases ht
          refine ⟨t, vs, e, by rw [upd_ne ne]; exact ht, av.imp fun v' a' h' => ?_⟩
          cases a' with
          | sg z => exact h'
          | nu n => exact h'
          | sh qq =>
            obtain ⟨p', dx', e', h'⟩ := h'
            have ne' : p' ≠ pf := fun z => by
              rw [z, e2] at h'
              cases h'
            exact ⟨p', dx', e', by rw [upd_ne ne']; exact h'⟩
        refine ⟨_, ys ++ [v], rfl, same_over (s1.trans s2) nf, upd_same, ?_⟩
        rw [et]
        exact AllAre.snoc (a1.imp fun _ _ h => ts (h.mono (SB.m _) s2)) (ts hv)
      have app : ∀ (v : V) (H2 : Hp), Same H1 H2 → H2 pf = some (.lst ys) ∧ ys.length < sizeLine := fun v H2 s2 => ⟨s2 _ _ e1, by rw [ly]; exact small1000 (by omega)⟩
      obtain ⟨t, vs, rfl, ht, aa⟩ := id hx1
      have sq : SqT K H1 t (.str r.word :: vs) := .inl (.inl ht)
      refine ⟨_, rfl, t, _, _, _, rfl, rfl, sq, atI_nat (j := 0) rfl, rfl, _, rfl, ?_⟩
      by_cases hl : r.word = "less"
      · rw [decide_eq_true (show V.str r.word = V.str "less" by rw [hl])]
        refine iteT ?_
        obtain ⟨n, qq, rfl⟩ : ∃ n qq, r = ⟨"less", [.nu n, .sh qq]⟩ := by
          cases rok.shape with
          | less n qq => exact ⟨n, qq, rfl⟩
          | one => exact absurd (show ("one" : Str) = "less" from hl) (by decide +kernel)
          | can z => exact absurd (show ("can" : Str) = "less" from hl) (by decide +kernel)
          | on z n => exact absurd (show ("on" : Str) = "less" from hl) (by decide +kernel)
          | no n => exact absurd (show ("not" : Str) = "less" from hl) (by decide +kernel)
          | both n m => exact absurd (show ("both" : Str) = "less" from hl) (by decide +kernel)
          | either n m => exact absurd (show ("either" : Str) = "less" from hl) (by decide +kernel)
        obtain ⟨v1, rest, rfl, h1, hrest⟩ : ∃ v1 rest, vs = v1 :: rest ∧ IsArg SL H1 v1 (.nu n) ∧ AllAre (IsArg SL H1) rest [.sh qq] := by
          cases vs with
          | nil => exact absurd aa.1 (by simp)
          | cons v1 rest => exact ⟨v1, rest, rfl, aa.2 0 v1 _ rfl rfl, by simpa using aa.1, fun i a b h1 h2 => aa.2 (i + 1) a b (by simpa using h1) (by simpa using h2)⟩
        obtain ⟨v2, rfl, h2⟩ : ∃ v2, rest = [v2] ∧ IsArg SL H1 v2 (.sh qq) := by
          cases rest with
          | nil => exact absurd hrest.1 (by simp)
          | cons v2 rest =>
            cases rest with
            | nil => exact ⟨v2, rfl, hrest.2 0 v2 _ rfl rfl⟩
            | cons _ _ => exact absurd hrest.1 (by simp)
        obtain rfl : v1 = .int (n : Int) := h1
        obtain ⟨p2, rfl, h2⟩ : IsTup2 H1 v2 qq.num (qq.den : Int) := h2
        obtain ⟨u1, u2, ub⟩ : ArgOk i (.sh qq) := rok.args _ (by simp)
        refine ⟨_, rfl, 2, rfl, t, _, rfl, sq, ?_, fun c nc => ?_⟩
        · exact fun h => absurd h.2 (by show ¬ (2 = 3); decide)
        have ec : cutV [V.str "less", V.int (n : Int), V.ref p2] none (some 2) = [V.str "less", V.int (n : Int)] := rfl
        rw [ec]
        have sc := same_upd (o := .tup [V.str "less", V.int (n : Int)]) nc
        have fc : (upd H1 c (.tup [V.str "less", V.int (n : Int)])) c = some (.tup [V.str "less", V.int (n : Int)]) := upd_same
        have ht2 := sc _ _ ht
        have h22 := sc _ _ h2
        generalize upd H1 c (.tup [V.str "less", V.int (n : Int)]) = H2 at *
        have sq2 : SqT K H2 t [.str "less", .int (n : Int), .ref p2] := .inl (.inl ht2)
        have sq3 : SqT K H2 p2 [.int qq.num, .int (qq.den : Int)] := .inl (.inl h22)
        refine ⟨_, rfl, t, _, _, _, rfl, rfl, sq2, atI_nat (j := 2) rfl, p2, _, _, _, rfl, rfl, sq3, atI_nat (j := 0) rfl, _, rfl, t, _, _, _, rfl, rfl, sq2, atI_nat (j := 2) rfl, p2, _, _, _, rfl, rfl, sq3, atI_nat (j := 1) rfl, ?_⟩
        refine mk_share (den_ne qq) (log_of (by decide) (den_abs ub) (by decide)) fun H3 r3 s3 h3 => ?_
        rw [divInt_self] at h3
        refine ⟨by show 1 ≤ sizeLine; decide, fun c2 nc2 => ?_⟩
        have sc2 := same_upd (o := .tup [V.ref r3]) nc2
        refine ⟨c, c2, _, _, rfl, rfl, .inl (.inl (sc2 _ _ (s3 _ _ fc))), .inl (.inl upd_same), by simp, Nat.le_of_lt (small1000 (by show 2 + 1 ≤ 1000; decide)), (fun z => by cases z), fun _ c3 nc3 => ?_⟩
        have sc3 := same_upd (o := .tup ([V.str "less", V.int (n : Int)] ++ [V.ref r3])) nc3
        have s13 := sc.trans (s3.trans (sc2.trans sc3))
        obtain ⟨ea, eb⟩ := app (.ref c3) _ s13
        refine ⟨_, rfl, .inl ⟨rfl, _, SqL.of ea⟩, _, rfl, pf, _, _, rfl, rfl, ea, eb, ?_⟩
        exact fin (.ref c3) _ s13 (rw2 (t := c3) (x := .int (n : Int)) (y := .ref r3) upd_same rfl ((h3.mono sc2).mono sc3))
      · rw [str_ne hl]
        refine iteF ?_
        obtain ⟨ea, eb⟩ := app (.ref t) _ (Same.refl H1)
        refine ⟨_, rfl, .inl ⟨rfl, _, SqL.of ea⟩, _, rfl, pf, _, _, rfl, rfl, ea, eb, ?_⟩
        refine fin (.ref t) H1 (Same.refl _) (plain_rw hx1 fun qq hq => ?_)
        cases rok.shape with
        | less n qq => exact hl rfl
        | one => cases hq
        | can z => simp at hq
        | on z n => simp at hq
        | no n => simp at hq
        | both n m => simp at hq
        | either n m => simp at hq
    · obtain ⟨y, ys, rfl, s1, e1, a1⟩ := h
      rw [av.1, List.take_length] at a1
      exact ⟨_, rfl, q H' pf ys s1 e1 a1⟩
end

end Fb

namespace Fb
open PySem PySem.Spec PyProof.Rows L2
section
variable {P : Program} {w : World} {K : PySem.W.Frag} {mg : Str → Option Value} {base : Heap}
/-! ### the law's depth -/
theorem nts_getD {ds : List Nat} {n : Nat} (h : n < ds.length) : (nts ds)[n]? = some (.int (ds.getD n 0 : Nat)) := by
  rw [List.getElem?_map, List.getD_eq_getElem?_getD, List.getElem?_eq_getElem h]
  rfl
theorem u_one : upW "one" = 0 := by decide +kernel
theorem u_can : upW "can" = 1 := by decide +kernel
theorem u_on : upW "on" = 1 := by decide +kernel
theorem u_not : upW "not" = 0 := by decide +kernel
theorem u_less : upW "less" = 0 := by decide +kernel
theorem u_both : upW "both" = 0 := by decide +kernel
theorem u_either : upW "either" = 0 := by decide +kernel
theorem inv_two {z a b : Str} : inV (V.str z) [V.str a, V.str b] = (decide (z = a) || decide (z = b)) := by
  show ((eqV (V.str a) (V.str z)) || ((eqV (V.str b) (V.str z)) || false)) = _
  rw [Bool.or_false]
  have e : ∀ x y : Str, eqV (V.str x) (V.str y) = decide (y = x) := fun x y => by
    show (x == y) = _
    by_cases h : y = x
    · rw [h, decide_eq_true rfl]
      exact beq_self_eq_true _
    · rw [decide_eq_false h]
      exact beq_eq_false_iff_ne.mpr (Ne.symm h)
  rw [e, e]
theorem asg_c {v : V} {i : Nat} {u : L2.TS} {D : Ends} {σ : L2.St} {H : Hp} (h : u D (σ.set i (some v)) H) : tSeq (tAsg (tC v) (gName i)) u D σ H := h
def spDepth : Sp := fun vs H Q _ => ∃ (p : Addr) (xs : List V) (rs : List Rw), vs = [.ref p] ∧ H p = some (.lst xs) ∧ AllAre (IsRw SL H) xs rs ∧ BkOk rs ∧ rs ≠ [] ∧ rs.length ≤ 300 ∧ ∀ H', Same H H' → Q (.int (lastD rs : Nat)) H'
set_option maxHeartbeats 800000 in
theorem ok_l_depth (T : Txt K mg) : FnOk P w K mg base CX0 1 T.f_l_depth T.d_l_depth ["_law_rows_here"] spDepth := by
  refine T.F_l_depth.ok sc_l_depth (fun vs H Q E h => ?_) (fun cdv A outer s H vs Q E hr h => ?_)
  · obtain ⟨p, xs, rs, rfl, _⟩ := h
    rfl
  · obtain ⟨p, xs, rs, rfl, hp, av, ok, ne, l3, q⟩ := h
    refine ⟨_, (pss_cons (ps_set (i := 1) sc_l_depth.nd rfl (.inl rfl) (pe_lst pa_nil))
 (pss_cons (ps_for PassesOwn.never rfl (pi_list (pv 0)) (pg_name (i := 2) sc_l_depth.nd rfl (.inl rfl))
  (pss_cons (ps_set (i := 3) sc_l_depth.nd rfl (.inl rfl) pe_int)
 (pss_cons (ps_if (pt_cmpR op_in_seq (pe_ix ix_tup (pv 2) pe_int (fun _ _ => rfl)) (pe_tup (pa_cons pe_str (pa_cons pe_str pa_nil))) (by with_unfolding_all rfl))
  (pss_one (ps_set (i := 3) sc_l_depth.nd rfl (.inl rfl) (pe_ix ix_list (pv 1) (pe_ix ix_tup (pv 2) pe_int (fun _ _ => rfl)) (fun _ _ => rfl))))
  (pss_one (ps_if (pt_cmpR op_eq (pe_ix ix_tup (pv 2) pe_int (fun _ _ => rfl)) pe_str (nomark _))
  (pss_one (ps_set (i := 3) sc_l_depth.nd rfl (.inl rfl) (pe_op op_add pe_int (pe_ix ix_list (pv 1) (pe_ix ix_tup (pv 2) pe_int (fun _ _ => rfl)) (fun _ _ => rfl)))))
  (pss_one (ps_if (pt_cmpR op_in_seq (pe_ix ix_tup (pv 2) pe_int (fun _ _ => rfl)) (pe_tup (pa_cons pe_str (pa_cons pe_str pa_nil))) (by with_unfolding_all rfl))
  (pss_one (ps_set (i := 3) sc_l_depth.nd rfl (.inl rfl) (pe_callB (call_max2 rfl) (by rfl) T.z_max (by decide +kernel) (pa_cons (pe_ix ix_list (pv 1) (pe_ix ix_tup (pv 2) pe_int (fun _ _ => rfl)) (fun _ _ => rfl)) (pa_cons (pe_ix ix_list (pv 1) (pe_ix ix_tup (pv 2) pe_int (fun _ _ => rfl)) (fun _ _ => rfl)) pa_nil)))))
  pss_nil)))))
 (pss_one (ps_expr (pe_bm PySem.F.plainAttrs_list PySem.F.slot_list_append PySem.F.type_list_append mt_append (pv 1) (pa_cons (pe_ix ix_list (pe_lst (pa_cons (pv 3) (pa_cons pe_int pa_nil))) (pe_callTy call_int1 (by rfl) T.z_int (by decide +kernel) (pa_cons (pe_cmpR op_eq (pe_ix ix_tup (pv 2) pe_int (fun _ _ => rfl)) pe_str (nomark _)) pa_nil)) (fun _ _ => rfl)) pa_nil)))))))
 (pss_one (ps_ret (pe_ix ix_list (pv 1) (pe_un un_neg pe_int) (fun _ _ => rfl)))))), ?_⟩
    refine ⟨Nat.zero_le _, fun pf nf => ?_⟩
    have s0 := same_upd (o := .lst []) nf
    refine ⟨_, rfl, p, rfl, ⟨_, SqL.of (s0 _ _ hp)⟩, for_list (K := K) (a := p) (xs := xs) (fun i σ H' => ∃ (y z : Option V), σ = [some (.ref p), some (.ref pf), y, z] ∧ Same H H' ∧ H' pf = some (.lst (nts (deps (rs.take i))))) ⟨_, _, rfl, s0, upd_same⟩ (fun i σ H' _ h => ?_) (fun i x σ H1 hx h => ?_) (fun σ H' h => ?_)⟩
    · obtain ⟨_, _, _, s', _⟩ := h
      exact SqL.of (s' _ _ hp)
    · obtain ⟨y, z, rfl, s1, e1⟩ := h
      obtain ⟨r, hr', hx'⟩ := av.at hx
      have rok := ok i r hr'
      have hi : i < rs.length := (List.getElem?_eq_some_iff.mp hr').1
      obtain ⟨t, vs, rfl, ht0, aa0⟩ := hx'
      have ht := s1 _ _ ht0
      have aa := aa0.imp fun _ _ h => h.mono SL.m s1
      have dl : (deps (rs.take i)).length = i := by rw [deps_len, List.length_take]; omega
      have et : deps (rs.take (i + 1)) = deps (rs.take i) ++ [dep (deps (rs.take i)) r] := by rw [List.take_add_one, hr']; exact deps_snoc _ _
      generalize deps (rs.take i) = ds at *
      have sq : ∀ {G : Hp}, Same H1 G → SqT K G t (.str r.word :: vs) := fun s => .inl (.inl (s _ _ ht))
      dsimp only [gName]
      refine asg_c ?_
      refine seq_fin (t := tIfS _ _ _) (fun σ H' => ∃ num : Nat, σ = [some (.ref p), some (.ref pf), some (.ref t), some (.int (num : Int))] ∧ Same H1 H' ∧ (if r.word = "can" then 1 else num) = dep ds r) (fun σ H2 h => ?_) (fun kn => ?_)
      · obtain ⟨num, rfl, s2, en⟩ := h
        refine ⟨_, rfl, .inl ⟨rfl, _, SqL.of (s2 _ _ e1)⟩, _, rfl, by show 2 ≤ sizeLine; decide, fun c nc => ?_⟩
        have sc := same_upd (o := .lst [.int (num : Int), .int 1]) nc
        refine ⟨_, rfl, t, _, _, _, rfl, rfl, sq (s2.trans sc), atI_nat (j := 0) rfl, rfl, .inr ⟨_, rfl, c, _, _, .int (dep ds r : Nat), rfl, rfl, SqL.of upd_same, ?_, pf, _, _, rfl, rfl, sc _ _ (s2 _ _ e1), ?_, ?_⟩⟩
        · by_cases hc : r.word = "can"
          · rw [if_pos hc] at en
            rw [decide_eq_true (show V.str r.word = V.str "can" by rw [hc]), ← en]
            rfl
          · rw [if_neg hc] at en
            rw [str_ne hc, ← en]
            rfl
        · rw [List.length_map, dl]
          exact small1000 (by omega)
        · refine ⟨_, _, rfl, same_over (s1.trans (s2.trans sc)) nf, ?_⟩
          rw [upd_same, et, nts, nts, List.map_append]
          rfl
      · -- the seven forms
        have two : ∀ {v1 : V} {a1 : Arg}, vs[0]? = some v1 → r.args[0]? = some a1 → IsArg SL H1 v1 a1 := fun h1 h2 => aa.2 0 _ _ h1 h2
        refine ⟨_, rfl, t, _, _, _, rfl, rfl, sq (Same.refl _), atI_nat (j := 0) rfl, by show 2 ≤ sizeLine; decide, fun c1 nc1 => ?_⟩
        have sc1 := same_upd (o := .tup [.str "not", .str "less"]) nc1
        refine ⟨c1, _, rfl, .inr (.inl (.inl upd_same)), rfl, rfl, _, rfl, ?_⟩
        show if (inV (V.str r.word) [V.str "not", V.str "less"]) = true then _ else _
        rw [inv_two]
        have fst : ∀ {G : Hp} {v1 : V}, Same H1 G → vs[0]? = some v1 → SqT K G t (.str r.word :: vs) ∧ (V.str r.word :: vs)[1]? = some v1 := fun s h => ⟨sq s, h⟩
        have snd : ∀ {G : Hp} {v2 : V}, Same H1 G → vs[1]? = some v2 → SqT K G t (.str r.word :: vs) ∧ (V.str r.word :: vs)[2]? = some v2 := fun s h => ⟨sq s, h⟩
        have lv : vs.length = r.args.length := aa.1
        -- the first thing behind the word, where it is a number
        have num1 : ∀ {n : Nat}, r.args[0]? = some (.nu n) → vs[0]? = some (.int (n : Int)) ∧ n < ds.length := fun {n} h => by
          have h0 : 0 < vs.length := by rw [lv]; exact (List.getElem?_eq_some_iff.mp h).1
          have := aa.2 0 _ _ (List.getElem?_eq_getElem h0) h
          refine ⟨by rw [List.getElem?_eq_getElem h0]; exact congrArg some this, ?_⟩
          rw [dl]
          exact rok.args _ (List.mem_of_getElem? h)
        have num2 : ∀ {n : Nat}, r.args[1]? = some (.nu n) → vs[1]? = some (.int (n : Int)) ∧ n < ds.length := fun {n} h => by
          have h0 : 1 < vs.length := by rw [lv]; exact (List.getElem?_eq_some_iff.mp h).1
          have := aa.2 1 _ _ (List.getElem?_eq_getElem h0) h
          refine ⟨by rw [List.getElem?_eq_getElem h0]; exact congrArg some this, ?_⟩
          rw [dl]
          exact rok.args _ (List.mem_of_getElem? h)
        by_cases h1 : r.word = "not" ∨ r.word = "less"
        · have eb : (decide (r.word = "not") || decide (r.word = "less")) = true := by simpa using h1
          rw [eb]
          refine iteT ?_
          obtain ⟨n, hn, hd⟩ : ∃ n, r.args[0]? = some (.nu n) ∧ (if r.word = "can" then 1 else ds.getD n 0) = dep ds r := by
            cases rok.shape with
            | no n => exact ⟨n, rfl, by unfold dep; rw [u_not, if_neg (by dsimp only; decide +kernel)]; show _ = max _ 0 + 0; simp [val]⟩
            | less n qq => exact ⟨n, rfl, by unfold dep; rw [u_less, if_neg (by dsimp only; decide +kernel)]; show _ = max _ 0 + 0; simp [val]⟩
            | one => exact absurd h1 (by dsimp only; decide +kernel)
            | can z => exact absurd h1 (by dsimp only; decide +kernel)
            | on z n => exact absurd h1 (by dsimp only; decide +kernel)
            | both n m => exact absurd h1 (by dsimp only; decide +kernel)
            | either n m => exact absurd h1 (by dsimp only; decide +kernel)
          obtain ⟨hv, hl⟩ := num1 hn
          obtain ⟨sqa, hva⟩ := fst sc1 hv
          refine ⟨_, rfl, _, rfl, t, _, _, _, rfl, rfl, sqa, atI_nat (j := 1) hva, pf, _, _, _, rfl, rfl, SqL.of (sc1 _ _ e1), atI_nat (nts_getD hl), ?_⟩
          exact kn _ _ ⟨_, rfl, sc1, hd⟩
        · have eb : (decide (r.word = "not") || decide (r.word = "less")) = false := by simpa using h1
          rw [eb]
          refine iteF ?_
          refine ⟨_, rfl, t, _, _, _, rfl, rfl, sq sc1, atI_nat (j := 0) rfl, rfl, _, rfl, ?_⟩
          by_cases h2 : r.word = "on"
          · rw [decide_eq_true (show V.str r.word = V.str "on" by rw [h2])]
            refine iteT ?_
            obtain ⟨n, hn, hd⟩ : ∃ n, r.args[1]? = some (.nu n) ∧ (if r.word = "can" then 1 else 1 + ds.getD n 0) = dep ds r := by
              cases rok.shape with
              | on z n => exact ⟨n, rfl, by unfold dep; rw [u_on, if_neg (by dsimp only; decide +kernel)]; show _ = max _ 0 + 1; simp [val]; omega⟩
              | no n => exact absurd h2 (by dsimp only; decide +kernel)
              | less n qq => exact absurd h2 (by dsimp only; decide +kernel)
              | one => exact absurd h2 (by dsimp only; decide +kernel)
              | can z => exact absurd h2 (by dsimp only; decide +kernel)
              | both n m => exact absurd h2 (by dsimp only; decide +kernel)
              | either n m => exact absurd h2 (by dsimp only; decide +kernel)
            obtain ⟨hv, hl⟩ := num2 hn
            obtain ⟨sqa, hva⟩ := snd sc1 hv
            refine ⟨_, rfl, _, rfl, t, _, _, _, rfl, rfl, sqa, atI_nat (j := 2) hva, pf, _, _, _, rfl, rfl, SqL.of (sc1 _ _ e1), atI_nat (nts_getD hl), _, _, rfl, rfl, ?_⟩
            refine kn _ _ ⟨1 + ds.getD n 0, ?_, sc1, hd⟩
            rw [Int.natCast_add]
            rfl
          · rw [str_ne h2]
            refine iteF ?_
            refine ⟨_, rfl, t, _, _, _, rfl, rfl, sq sc1, atI_nat (j := 0) rfl, by show 2 ≤ sizeLine; decide, fun c2 nc2 => ?_⟩
            have sc2 := sc1.trans (same_upd (o := .tup [.str "both", .str "either"]) nc2)
            refine ⟨c2, _, rfl, .inr (.inl (.inl upd_same)), rfl, rfl, _, rfl, ?_⟩
            show if (inV (V.str r.word) [V.str "both", V.str "either"]) = true then _ else _
            rw [inv_two]
            by_cases h3 : r.word = "both" ∨ r.word = "either"
            · have eb : (decide (r.word = "both") || decide (r.word = "either")) = true := by simpa using h3
              rw [eb]
              refine iteT ?_
              obtain ⟨n, m, hn, hm, hd⟩ : ∃ n m, r.args[0]? = some (.nu n) ∧ r.args[1]? = some (.nu m) ∧ (if r.word = "can" then 1 else max (ds.getD n 0) (ds.getD m 0)) = dep ds r := by
                cases rok.shape with
                | both n m => exact ⟨n, m, rfl, rfl, by unfold dep; rw [u_both, if_neg (by dsimp only; decide +kernel)]; show _ = max _ (max _ 0) + 0; simp [val]⟩
                | either n m => exact ⟨n, m, rfl, rfl, by unfold dep; rw [u_either, if_neg (by dsimp only; decide +kernel)]; show _ = max _ (max _ 0) + 0; simp [val]⟩
                | no n => exact absurd h3 (by dsimp only; decide +kernel)
                | less n qq => exact absurd h3 (by dsimp only; decide +kernel)
                | one => exact absurd h3 (by dsimp only; decide +kernel)
                | can z => exact absurd h3 (by dsimp only; decide +kernel)
                | on z n => exact absurd h3 (by dsimp only; decide +kernel)
              obtain ⟨hv, hl⟩ := num1 hn
              obtain ⟨hv', hl'⟩ := num2 hm
              obtain ⟨sqa, hva⟩ := fst sc2 hv
              obtain ⟨_, hvb⟩ := snd sc2 hv'
              refine ⟨_, rfl, _, rfl, t, _, _, _, rfl, rfl, sqa, atI_nat (j := 1) hva, pf, _, _, _, rfl, rfl, SqL.of (sc2 _ _ e1), atI_nat (nts_getD hl), _, rfl, _, rfl, t, _, _, _, rfl, rfl, sqa, atI_nat (j := 2) hvb, pf, _, _, _, rfl, rfl, SqL.of (sc2 _ _ e1), atI_nat (nts_getD hl'), _, _, rfl, ?_⟩
              refine kn _ _ ⟨max (ds.getD n 0) (ds.getD m 0), ?_, sc2, hd⟩
              have em : (if ((ds.getD m 0 : Nat) : Int) > ((ds.getD n 0 : Nat) : Int) then ((ds.getD m 0 : Nat) : Int) else ((ds.getD n 0 : Nat) : Int)) = ((max (ds.getD n 0) (ds.getD m 0) : Nat) : Int) := by
                split <;> omega
              rw [em]
              rfl
            · have eb : (decide (r.word = "both") || decide (r.word = "either")) = false := by simpa using h3
              rw [eb]
              refine iteF ?_
              refine kn _ _ ⟨0, rfl, sc2, ?_⟩
              cases rok.shape with
              | one => unfold dep; rw [u_one, if_neg (by dsimp only; decide +kernel)]; rfl
              | can z => unfold dep; rw [u_can, if_pos rfl]; rfl
              | on z n => exact absurd rfl h2
              | no n => exact absurd (.inl rfl) h1
              | less n qq => exact absurd (.inr rfl) h1
              | both n m => exact absurd (.inl rfl) h3
              | either n m => exact absurd (.inr rfl) h3
    · obtain ⟨y, z, rfl, s1, e1⟩ := h
      rw [av.1, List.take_length] at e1
      exact ⟨_, rfl, _, rfl, pf, _, _, _, rfl, rfl, SqL.of e1, last_at ne, q H' s1⟩
end

end Fb

namespace Fb
open PySem PySem.Spec PyProof.Rows L2
section
variable {P : Program} {w : World} {K : PySem.W.Frag} {mg : Str → Option Value} {base : Heap}
theorem rw_ts {H : Hp} {a pf : Addr} {xs ys : List V} (pfa : pf ≠ a) (e : hid a H pf = some (.lst xs)) {x : V} {r : Rw} (h : IsRw SL (hid a H) x r) : IsRw SL (hid a (upd H pf (.lst ys))) x r := by
  obtain ⟨t, vs, ex, ht, av⟩ := h
  have ne : t ≠ pf := fun z => by
    rw [z, e] at ht
    cases ht
  refine ⟨t, vs, ex, by rw [hid_updN pfa, upd_ne ne]; exact ht, av.imp fun v' a' h' => ?_⟩
  cases a' with
  | sg z => exact h'
  | nu n => exact h'
  | sh qq =>
    obtain ⟨p', e', h'⟩ := h'
    have ne' : p' ≠ pf := fun z => by
      rw [z, e] at h'
      cases h'
    exact ⟨p', e', by rw [hid_updN pfa, upd_ne ne']; exact h'⟩
def spDbl : Sp := fun vs H Q _ => ∃ (a p : Addr) (xs : List V) (rs : List Rw) (n : Nat), vs = [.ref a, .ref p, .int 60] ∧ WellAt H a (n + 60) ∧ hid a H p = some (.lst xs) ∧ AllAre (IsRw SL (hid a H)) xs rs ∧ BkOk rs ∧ rs ≠ [] ∧ rs.length ≤ 14 ∧
  ∀ H' b ys rs', BkOk rs' → rs' ≠ [] → rs'.length ≤ 74 → Same (hid a H) (hid a H') → WellAt H' a n → hid a H' b = some (.lst ys) → AllAre (IsRw SL (hid a H')) ys rs' → Q (.ref b) H'
theorem ok_l_doubled (T : Txt K mg) : FnOk P w K mg base CX0 2 T.f_l_doubled T.d_l_doubled ["_law_well_here", "_law_rows_here", "_law_many"] spDbl := by
  refine T.F_l_doubled.ok sc_l_doubled (fun vs H Q E h => ?_) (fun cdv A outer s H vs Q E hr h => ?_)
  · obtain ⟨a, p, xs, rs, n, rfl, _⟩ := h
    rfl
  · obtain ⟨a, p, xs, rs, n, rfl, w0, hp, av, bk0, ne0, l14, q⟩ := h
    refine ⟨_, (pss_cons (ps_set (i := 3) sc_l_doubled.nd rfl (.inl rfl) (pe_callTy call_list_of (by rfl) T.z_list (by decide +kernel) (pa_cons (pv 1) pa_nil)))
 (pss_cons (ps_for PassesOwn.never rfl (pi_range1 (by rfl) T.z_range (pa_cons (pv 2) pa_nil)) (pg_name (i := 4) sc_l_doubled.nd rfl (.inl rfl))
  (pss_one (ps_expr (pe_bm PySem.F.plainAttrs_list PySem.F.slot_list_append PySem.F.type_list_append mt_append (pv 3) (pa_cons (pe_tup (pa_cons (pe_ix ix_list (pe_lst (pa_cons pe_str (pa_cons pe_str pa_nil))) (pe_call (ok_l_draw T) (hr.mono (by decide)) (by rfl) T.g_l_draw T.F_l_draw.kp T.b_l_draw .nil pass0 (pa_cons (pv 0) (pa_cons pe_int pa_nil))) (fun _ _ => rfl)) (pa_cons (pe_op op_sub (pe_callB call_len_seq (by rfl) T.z_len (by decide +kernel) (pa_cons (pv 3) pa_nil)) pe_int) (pa_cons (pe_op op_sub (pe_callB call_len_seq (by rfl) T.z_len (by decide +kernel) (pa_cons (pv 3) pa_nil)) pe_int) pa_nil)))) pa_nil)))))
 (pss_one (ps_ret (pv 3))))), ?_⟩
    refine ⟨_, rfl, p, _, rfl, .inl (SqL.of (hid_same _ _ hp)), fun pf nf => ?_⟩
    obtain ⟨w1, s1, f1⟩ := alloc (o := .lst xs) w0 nf
    have pfa : pf ≠ a := w0.ne nf
    have nfh : hid a H pf = none := by rw [hid_ne pfa]; exact nf
    refine ⟨_, rfl, 60, rfl, by decide, by decide, ?_⟩
    refine for_range (lo := 0) (n := (60 : Int).toNat) (tb := _) (D := { nx := tRet (tVar 3) { nx := fun _ H' => Q .non H', rt := Q }, rt := Q }) (fun j σ H' => ∃ (y : Option V) (ys : List V) (rs' : List Rw), σ = [some (.ref a), some (.ref p), some (.int 60), some (.ref pf), y] ∧ Same (hid a H) (hid a H') ∧ WellAt H' a (n + (60 - j)) ∧ hid a H' pf = some (.lst ys) ∧ AllAre (IsRw SL (hid a H')) ys rs' ∧ BkOk rs' ∧ rs'.length = rs.length + j) ⟨none, xs, rs, rfl, s1, w1, f1, av.imp fun _ _ h => h.mono SL.m s1, bk0, rfl⟩ (fun j σ H3 hj h => ?_) (fun σ H3 h => ?_)
    · obtain ⟨y, ys, rs', rfl, s3, w3, e3, a3, bk, lr⟩ := h
      have hj : j < 60 := hj
      have l0 : 0 < rs.length := by
        cases rs with
        | nil => exact absurd rfl ne0
        | cons _ _ => simp
      have ly : ys.length = rs'.length := a3.1
      have e3' : H3 pf = some (.lst ys) := hid_same _ _ e3
      refine ⟨_, rfl, .inl ⟨rfl, _, SqL.of e3'⟩, by show 2 ≤ sizeLine; decide, fun c nc => ?_⟩
      obtain ⟨w4, s4, fc⟩ := alloc (o := .lst [.str "both", .str "either"]) w3 nc
      refine ⟨_, rfl, a, 2, n + (60 - (j + 1)), rfl, w4.mono (by omega), by decide, by decide, fun d H5 d0 d1 s5 w5 => ?_⟩
      obtain ⟨zz, hz, fz⟩ : ∃ zz : Str, atI [V.str "both", V.str "either"] d = some (.str zz) ∧ (zz, (["number", "number"] : List Str)) ∈ forms := by
        have : d = 0 ∨ d = 1 := by omega
        rcases this with rfl | rfl
        · exact ⟨"both", atI_nat (j := 0) rfl, f_both⟩
        · exact ⟨"either", atI_nat (j := 1) rfl, f_either⟩
      have fc5 := hid_same _ _ (s5 _ _ fc)
      have e5 : hid a H5 pf = some (.lst ys) := s5 _ _ (s4 _ _ e3)
      have e5' : H5 pf = some (.lst ys) := hid_same _ _ e5
      refine ⟨c, _, _, _, rfl, rfl, SqL.of fc5, hz, _, rfl, pf, _, rfl, .inl (SqL.of e5'), _, _, rfl, rfl, _, rfl, pf, _, rfl, .inl (SqL.of e5'), _, _, rfl, rfl, by show 3 ≤ sizeLine; decide, fun t nt => ?_⟩
      obtain ⟨w6, s6, ft⟩ := alloc (o := .tup [.str zz, .int ((ys.length : Nat) - 1 : Int), .int ((ys.length : Nat) - 1 : Int)]) w5 nt
      have e6 := s6 _ _ e5
      refine ⟨pf, _, _, rfl, rfl, hid_same _ _ e6, ?_, ?_⟩
      · exact small1000 (by omega)
      have s36 : Same (hid a H3) (hid a (upd H5 t (.tup [.str zz, .int ((ys.length : Nat) - 1 : Int), .int ((ys.length : Nat) - 1 : Int)]))) := s4.trans (s5.trans s6)
      have em : (((ys.length : Nat) : Int) - 1) = ((rs'.length - 1 : Nat) : Int) := by omega
      have row : IsRw SL (hid a (upd H5 t (.tup [.str zz, .int ((ys.length : Nat) - 1 : Int), .int ((ys.length : Nat) - 1 : Int)]))) (.ref t) ⟨zz, [.nu (rs'.length - 1), .nu (rs'.length - 1)]⟩ := rw2 ft (congrArg V.int em) (congrArg V.int em)
      refine ⟨_, ys ++ [.ref t], rs' ++ [⟨zz, [.nu (rs'.length - 1), .nu (rs'.length - 1)]⟩], rfl, ?_, ?_, ?_, ?_, bk.snoc (ok2 (i := rs'.length) (a := .nu (rs'.length - 1)) (a' := .nu (rs'.length - 1)) rfl rfl fz (by show rs'.length - 1 < rs'.length; omega) (by show rs'.length - 1 < rs'.length; omega)), by rw [List.length_append, lr]; rfl⟩
      · rw [hid_updN pfa]
        exact same_over (s3.trans s36) nfh
      · obtain ⟨w0', w1', w2', ew, rest⟩ := w6
        exact ⟨w0', w1', w2', by rw [upd_ne pfa.symm]; exact ew, rest⟩
      · rw [hid_updN pfa]
        exact upd_same
      · exact AllAre.snoc (a3.imp fun _ _ h => rw_ts pfa e6 (h.mono SL.m s36)) (rw_ts pfa e6 row)
    · obtain ⟨y, ys, rs', rfl, s3, w3, e3, a3, bk, lr⟩ := h
      have lr : rs'.length = rs.length + 60 := lr
      refine ⟨_, rfl, q H3 pf ys rs' bk (fun z => ?_) (by omega) s3 (w3.mono (by omega)) e3 a3⟩
      rw [z] at lr
      simp at lr
/-! ### what rows begin with -/
def SF : ShR := fun _ _ _ => False
def IsHd (H : Hp) (y : V) (r : Rw) : Prop := ∃ t vs, y = .ref t ∧ H t = some (.tup (.str r.word :: vs)) ∧ AllAre (IsArg SF H) vs (r.args.take 1)
theorem IsHd.mono {H H' : Hp} {y : V} {r : Rw} (h : IsHd H y r) (s : Same H H') : IsHd H' y r := by
  obtain ⟨t, vs, e, ht, av⟩ := h
  exact ⟨t, vs, e, s _ _ ht, av.imp fun _ _ h => h.mono (fun _ _ _ _ _ z => z) s⟩
theorem first_plain {i : Nat} {r : Rw} (ok : RwOk i r) (q : Rat) : Arg.sh q ∉ r.args.take 1 := by
  cases ok.shape with
  | one => simp
  | can z => simp
  | on z n => simp
  | no n => simp
  | less n qq => simp
  | both n m => simp
  | either n m => simp
theorem plain_args {S : ShR} {H : Hp} {vs : List V} {l : List Arg} (h : AllAre (IsArg S H) vs l) (no : ∀ q, Arg.sh q ∉ l) : AllAre (IsArg SF H) vs l := .of_ix h.1 fun i y hy => by
  obtain ⟨a, ha, h⟩ := h.at hy
  refine ⟨a, ha, ?_⟩
  cases a with
  | sg z => exact h
  | nu n => exact h
  | sh q => exact absurd (List.mem_of_getElem? ha) (no q)
def spHeads : Sp := fun vs H Q _ => ∃ (S : ShR) (p : Addr) (xs : List V) (rs : List Rw), vs = [.ref p] ∧ ShM S ∧ H p = some (.lst xs) ∧ AllAre (IsRw S H) xs rs ∧ BkOk rs ∧ rs.length ≤ 300 ∧ ∀ H' b ys, Same H H' → H' b = some (.lst ys) → AllAre (IsHd H') ys rs → Q (.ref b) H'
theorem whole2 {xs : List V} : (HT.sIx xs.length 0 none = 0 ∧ HT.sIx xs.length xs.length (some (2 : Int)) = xs.length) ↔ xs.length ≤ 2 := by
  rw [HT.sIx_none, show (2 : Int) = ((2 : Nat) : Int) from rfl, HT.sIx_nat]
  omega
theorem ok_l_heads (T : Txt K mg) : FnOk P w K mg base CX0 1 T.f_l_heads T.d_l_heads ["_law_rows_here"] spHeads := by
  refine T.F_l_heads.ok sc_l_heads (fun vs H Q E h => ?_) (fun cdv A outer s H vs Q E hr h => ?_)
  · obtain ⟨S, p, xs, rs, rfl, _⟩ := h
    rfl
  · obtain ⟨S, p, xs, rs, rfl, hS, hp, av, ok, l3, q⟩ := h
    refine ⟨_, (pss_one (ps_ret (pe_lc (own := [("_law_row_here", 1)]) (g := (gName 1)) (tt := tYes) (by rfl) sc_l_heads.nd (pi_list (pv 0)) (blkOk_by (own := [("_law_row_here", 1)]) (N := ["_law_rows_here", "_law_row_here"]) (sc := defScope s_l_heads) (by decide +kernel)) (fun _ _ _ _ _ => by exact (pg_name (i := 1) sc_l_heads.nd rfl (.inl rfl))) (fun _ _ _ _ _ => by exact pts_nil) (fun _ _ _ _ _ => by exact (pe_slice (sl_tupAK (K := K) rfl) (pv 1) po_none (po_some pe_int)))))), ?_⟩
    refine ⟨_, rfl, p, rfl, ⟨_, SqL.of hp⟩, fun D nD => lc_allW (walk_list (K := K) (a := p) (xs := xs)) (fun i y G => ∃ r, rs[i]? = some r ∧ IsHd G y r) (fun _ _ _ _ s h => h.elim fun r f => ⟨r, f.1, f.2.mono s⟩) nD (fun H' s => SqL.of (s _ _ hp)) (by rw [av.1]; omega) (fun i x H2 H3 k hi s2 eD y hk => ?_) (fun H2 ys s2 e l h2 => ?_)⟩
    · obtain ⟨rfl, hv⟩ := y
      obtain ⟨r, hr', hx⟩ := av.at hv
      have rok := ok i r hr'
      obtain ⟨t, vs, rfl, ht, aa⟩ := hx.mono hS (s2.trans hid_same)
      refine ⟨rfl, _, rfl, 2, rfl, t, _, rfl, .inl (.inl ht), fun hwh => ?_, fun hwh c nc => ?_⟩
      · have h2 := whole2.mp hwh
        have l1 : vs.length ≤ 1 := by simpa using h2
        refine hk _ _ (Same.refl _) ⟨r, hr', t, vs, rfl, hid_no eD ht (fun _ => nofun), ?_⟩
        have ea : r.args.take 1 = r.args := List.take_of_length_le (by rw [← aa.1]; exact l1)
        have h3 : AllAre (IsArg SF H3) vs (r.args.take 1) := plain_args (by rw [ea]; exact aa) (first_plain rok)
        exact h3.imp fun v a h => by
          cases a with
          | sg z => exact h
          | nu n => exact h
          | sh q => exact h
      · have ec : cutV (.str r.word :: vs) none (some (2 : Int)) = .str r.word :: vs.take 1 := by
          rw [show (2 : Int) = ((2 : Nat) : Int) from rfl, cut_tok]
          rfl
        rw [ec]
        have sc := same_upd (o := .tup (.str r.word :: vs.take 1)) nc
        have eD' : ∃ ys, (upd H3 c (.tup (.str r.word :: vs.take 1))) D = some (.lst ys) := by
          obtain ⟨ys', e'⟩ := eD
          exact ⟨ys', sc _ _ e'⟩
        refine hk _ _ sc ⟨r, hr', c, vs.take 1, rfl, hid_no eD' upd_same (fun _ => nofun), ?_⟩
        have h3 : AllAre (IsArg SF H3) (vs.take 1) (r.args.take 1) := plain_args (aa.take 1) (first_plain rok)
        exact h3.imp fun v a h => by
          cases a with
          | sg z => exact h
          | nu n => exact h
          | sh q => exact h
    · refine q H2 D ys (s2.trans hid_same) e (.of_ix (by rw [l, av.1]) fun i y hy => ?_)
      obtain ⟨r, hr', h⟩ := h2 i y hy
      exact ⟨r, hr', h.mono hid_same⟩
/-! ### heads compared -/
def argD : Arg → PyData
  | .sg z => .str z
  | .nu n => .int (n : Int)
  | .sh _ => .none
def hdD (r : Rw) : PyData := .tuple (.str r.word :: (r.args.take 1).map argD)
theorem dp_args {H : Hp} : ∀ {vs : List V} {l : List Arg}, AllAre (IsArg SF H) vs l → DpAll K H vs (l.map argD)
  | [], [], _ => .nil
  | v :: vs, a :: l, h => by
    have h0 := h.2 0 v a rfl rfl
    refine .cons ?_ (dp_args ⟨by simpa using h.1, fun i a b h1 h2 => h.2 (i + 1) a b (by simpa using h1) (by simpa using h2)⟩)
    cases a with
    | sg z => obtain rfl : v = .str z := h0; exact .str _
    | nu n => obtain rfl : v = .int (n : Int) := h0; exact .int _
    | sh q => exact False.elim h0
  | [], _ :: _, h => by simp [AllAre] at h
  | _ :: _, [], h => by simp [AllAre] at h
theorem dp_hds {H : Hp} : ∀ {vs : List V} {l : List Rw}, AllAre (IsHd H) vs l → DpAll K H vs (l.map hdD)
  | [], [], _ => .nil
  | v :: vs, r :: l, h => by
    obtain ⟨t, us, rfl, ht, aa⟩ := h.2 0 v r rfl rfl
    exact .cons (.tup (.inl (.inl ht)) (.cons (.str _) (dp_args aa))) (dp_hds ⟨by simpa using h.1, fun i a b h1 h2 => h.2 (i + 1) a b (by simpa using h1) (by simpa using h2)⟩)
  | [], _ :: _, h => by simp [AllAre] at h
  | _ :: _, [], h => by simp [AllAre] at h
theorem nm_strOk {x : Str} (h : NmOk x) : PyData.strOk x = true := by
  show x.cps.all _ = true
  rw [← Array.all_toList, List.all_eq_true]
  intro c hc
  have h1 : ∀ c ∈ letters, decide (c < 0x110000) = true := by decide +kernel
  exact h1 c (h.all c hc)
theorem lay_hd {i : Nat} {r : Rw} (ok : RwOk i r) : PyData.canLay0 (hdD r) = true ∧ PyData.depth (hdD r) ≤ 1 := by
  have w1 : PyData.strOk ("one" : Str) = true := by decide +kernel
  have w2 : PyData.strOk ("can" : Str) = true := by decide +kernel
  have w3 : PyData.strOk ("on" : Str) = true := by decide +kernel
  have w4 : PyData.strOk ("not" : Str) = true := by decide +kernel
  have w5 : PyData.strOk ("less" : Str) = true := by decide +kernel
  have w6 : PyData.strOk ("both" : Str) = true := by decide +kernel
  have w7 : PyData.strOk ("either" : Str) = true := by decide +kernel
  have hz : ∀ {z : Str}, Arg.sg z ∈ r.args → PyData.strOk z = true := fun {z} h => nm_strOk (ok.args _ h)
  cases ok.shape with
  | one => exact ⟨by simp [hdD, PyData.canLay0, PyData.canLayAll0, w1], by simp [hdD, PyData.depth, PyData.depthAll]⟩
  | can z => exact ⟨by simp [hdD, argD, PyData.canLay0, PyData.canLayAll0, w2, hz (z := z) (by simp)], by simp [hdD, argD, PyData.depth, PyData.depthAll]⟩
  | on z n => exact ⟨by simp [hdD, argD, PyData.canLay0, PyData.canLayAll0, w3, hz (z := z) (by simp)], by simp [hdD, argD, PyData.depth, PyData.depthAll]⟩
  | no n => exact ⟨by simp [hdD, argD, PyData.canLay0, PyData.canLayAll0, w4], by simp [hdD, argD, PyData.depth, PyData.depthAll]⟩
  | less n qq => exact ⟨by simp [hdD, argD, PyData.canLay0, PyData.canLayAll0, w5], by simp [hdD, argD, PyData.depth, PyData.depthAll]⟩
  | both n m => exact ⟨by simp [hdD, argD, PyData.canLay0, PyData.canLayAll0, w6], by simp [hdD, argD, PyData.depth, PyData.depthAll]⟩
  | either n m => exact ⟨by simp [hdD, argD, PyData.canLay0, PyData.canLayAll0, w7], by simp [hdD, argD, PyData.depth, PyData.depthAll]⟩
theorem lay_hds : ∀ {rs : List Rw}, (∀ r ∈ rs, ∃ i, RwOk i r) → PyData.canLayAll0 (rs.map hdD) = true ∧ PyData.depthAll (rs.map hdD) ≤ 1
  | [], _ => ⟨rfl, Nat.zero_le _⟩
  | r :: rs, h => by
    obtain ⟨i, o⟩ := h r List.mem_cons_self
    obtain ⟨h1, h2⟩ := lay_hd o
    obtain ⟨h3, h4⟩ := lay_hds (rs := rs) fun r' hr' => h r' (List.mem_cons_of_mem _ hr')
    constructor
    · simp [PyData.canLayAll0, h1, h3]
    · simp only [List.map_cons, PyData.depthAll]
      omega
theorem ne_hds {H : Hp} {a b : Addr} {us vs : List V} {rs : List Rw} {Q : VK} (ok : BkOk rs) (ha : H a = some (.lst us)) (hb : H b = some (.lst vs)) (au : AllAre (IsHd H) us rs) (av : AllAre (IsHd H) vs rs) (q : Q (.bl false) H) : rNeD K (.ref a) (.ref b) H Q := by
  obtain ⟨h1, h2⟩ := lay_hds (rs := rs) fun r hr => by
    obtain ⟨i, hi, e⟩ := List.mem_iff_getElem.mp hr
    exact ⟨i, ok i r (by rw [List.getElem?_eq_getElem hi, e])⟩
  have sh : SeqAt.shaped (.list (rs.map hdD)) = true := by
    unfold SeqAt.shaped
    rw [Bool.and_eq_true]
    refine ⟨by simp [PyData.canLay0, h1], decide_eq_true ?_⟩
    simp only [PyData.depth]
    omega
  refine ⟨_, _, .lst (SqL.of ha) (dp_hds au), .lst (SqL.of hb) (dp_hds av), sh, sh, ?_⟩
  rw [SeqAt.eqv_refl _ (SeqAt.canLay_of_shaped sh)]
  exact q
end

end Fb

namespace Fb
open PySem PySem.Spec PyProof.Rows L2
section
variable {P : Program} {w : World} {K : PySem.W.Frag} {mg : Str → Option Value} {base : Heap}
def spLaw (K : PySem.W.Frag) : Sp := fun vs H Q _ => ∃ (a : Addr) (ns : List Int), vs = [.ref a] ∧ SqL K H a (ns.map V.int) ∧ ns.length ≤ 63 ∧ ∀ H', Q (.bl true) H'
set_option maxHeartbeats 1200000 in
theorem ok_law (T : Txt K mg) (hw : T.prm = w.params) : FnOk P w K mg base CX0 14 T.f_law T.d_law ["_law_script"] (spLaw K) := by
  refine T.F_law.ok sc_law (fun vs H Q E h => ?_) (fun cdv A outer s H vs Q E hr h => ?_)
  · obtain ⟨a, ns, rfl, _⟩ := h
    rfl
  · obtain ⟨a, ns, rfl, hS, hlen, q⟩ := h
    refine ⟨_, (pss_cons (ps_for PassesOwn.never rfl (pi_list (pe_op op_cat (pe_slice sl_list (pv 0) po_none (po_some pe_int)) (pe_lst (pa_cons pe_int (pa_cons pe_int pa_nil))))) (pg_name (i := 1) sc_law.nd rfl (.inl rfl))
  (pss_cons (ps_set (i := 2) sc_law.nd rfl (.inl rfl) (pe_call (ok_l_well T) (hr.mono (by decide)) (by rfl) T.g_l_well T.F_l_well.kp T.b_l_well .nil pass0 (pa_cons (pv 1) pa_nil)))
 (pss_cons (ps_set (i := 3) sc_law.nd rfl (.inl rfl) (pe_call (ok_l_rows T) (hr.mono (by decide)) (by rfl) T.g_l_rows T.F_l_rows.kp T.b_l_rows .nil pass0 (pa_cons (pv 2) (pa_cons (pe_call (ok_l_names T) (hr.mono (by decide)) (by rfl) T.g_l_names T.F_l_names.kp T.b_l_names .nil pass0 (pa_cons (pv 2) (pa_cons pe_int pa_nil))) (pa_cons pe_int pa_nil)))))
 (pss_cons (ps_if (pt_cmpR op_eq (pe_call (ok_l_draw T) (hr.mono (by decide)) (by rfl) T.g_l_draw T.F_l_draw.kp T.b_l_draw .nil pass0 (pa_cons (pv 2) (pa_cons pe_int pa_nil))) pe_int (nomark _))
  (pss_one (ps_set (i := 3) sc_law.nd rfl (.inl rfl) (pe_call (ok_l_doubled T) (hr.mono (by decide)) (by rfl) T.g_l_doubled T.F_l_doubled.kp T.b_l_doubled .nil pass0 (pa_cons (pv 2) (pa_cons (pv 3) (pa_cons pe_int pa_nil))))))
  pss_nil)
 (pss_cons (ps_set (i := 4) sc_law.nd rfl (.inl rfl) (pe_call (ok_l_book T) (hr.mono (by decide)) (by rfl) T.g_l_book T.F_l_book.kp T.b_l_book .nil pass0 (pa_cons (pv 3) pa_nil)))
 (pss_cons (ps_for PassesOwn.never rfl (pi_range2 (by rfl) T.z_range (pa_cons pe_int (pa_cons (pe_op op_add (pe_callB call_len_seq (by rfl) T.z_len (by decide +kernel) (pa_cons (pv 3) pa_nil)) pe_int) pa_nil))) (pg_name (i := 5) sc_law.nd rfl (.inl rfl))
  (pss_cons (ps_set (i := 6) sc_law.nd rfl (.inl rfl) (pe_call (ok_p_deep T hw) (hr.mono (by decide)) (by rfl) T.g_p_deep T.F_p_deep.kp T.b_p_deep .nil pass0 (pa_cons (pe_slice sl_list (pv 4) po_none (po_some (pv 5))) pa_nil)))
 (pss_cons (ps_if (PW.pt (pw_or (pt_not (pt_val (pe_callB call_isi (by rfl) T.z_isinstance (by decide +kernel) (pa_cons (pv 6) (pa_cons (pe_bltn (v := .ty "int") (by rfl) T.z_int (by decide +kernel) rfl) pa_nil))))) (pw_or1 (pt_val (pe_callB call_isi (by rfl) T.z_isinstance (by decide +kernel) (pa_cons (pv 6) (pa_cons (pe_bltn (v := .ty "bool") (by rfl) T.z_bool (by decide +kernel) rfl) pa_nil)))))))
  (pss_one (ps_ret pe_bl))
  pss_nil)
 (pss_one (ps_if (pt_cmpR op_ne (pv 6) (pe_call (ok_l_depth T) (hr.mono (by decide)) (by rfl) T.g_l_depth T.F_l_depth.kp T.b_l_depth .nil pass0 (pa_cons (pe_slice sl_list (pv 3) po_none (po_some (pv 5))) pa_nil)) (nomark _))
  (pss_one (ps_ret pe_bl))
  pss_nil)))))
 (pss_one (ps_if (PW.pt (pw_or (pt_cmpR op_ne (pe_callB call_len_seq (by rfl) T.z_len (by decide +kernel) (pa_cons (pv 4) pa_nil)) (pe_callB call_len_seq (by rfl) T.z_len (by decide +kernel) (pa_cons (pv 3) pa_nil)) (nomark _)) (pw_or1 (pt_cmpR (op_neD hr.units) (pe_call (ok_l_heads T) (hr.mono (by decide)) (by rfl) T.g_l_heads T.F_l_heads.kp T.b_l_heads .nil pass0 (pa_cons (pv 4) pa_nil)) (pe_call (ok_l_heads T) (hr.mono (by decide)) (by rfl) T.g_l_heads T.F_l_heads.kp T.b_l_heads .nil pass0 (pa_cons (pv 3) pa_nil)) (nomark _)))))
  (pss_one (ps_ret pe_bl))
  pss_nil))))))))
 (pss_one (ps_ret pe_bl))), ?_⟩
    refine ⟨_, rfl, 6, rfl, a, _, rfl, hS, fun c1 n1 => ?_⟩
    refine ⟨by show 2 ≤ sizeLine; decide, fun c2 n2 => ?_⟩
    have ne12 : c1 ≠ c2 := fun z => by
      rw [← z, upd_same] at n2
      cases n2
    refine ⟨c1, c2, _, _, rfl, rfl, by rw [upd_ne ne12]; exact upd_same, upd_same, ?_, fun c3 n3 => ?_⟩
    · have := cutV_length (ns.map V.int) none (some 6)
      rw [List.length_map] at this
      exact Nat.le_of_lt (small1000 (by show _ + 2 ≤ 1000; omega))
    generalize hH0 : upd (upd (upd H c1 (.lst (cutV (ns.map V.int) none (some 6)))) c2 (.lst [.int 0, .int 1])) c3 (.lst (cutV (ns.map V.int) none (some 6) ++ [.int 0, .int 1])) = H0
    have hc3 : H0 c3 = some (.lst (cutV (ns.map V.int) none (some 6) ++ [.int 0, .int 1])) := by
      rw [← hH0]
      exact upd_same
    refine ⟨c3, rfl, ⟨_, SqL.of hc3⟩, for_list (K := K) (a := c3) (xs := cutV (ns.map V.int) none (some 6) ++ [.int 0, .int 1])
      (fun i σ H' => ∃ y1 y2 y3 y4 y5 y6, σ = [some (.ref a), y1, y2, y3, y4, y5, y6] ∧ Same H0 H') ⟨_, _, _, _, _, _, rfl, Same.refl _⟩ (fun i σ H' _ h => ?_) (fun i x σ H' hx h => ?_) (fun σ H' h => ?_)⟩
    · obtain ⟨_, _, _, _, _, _, _, s0⟩ := h
      exact s0.seq (SqL.of hc3)
    · obtain ⟨y1, y2, y3, y4, y5, y6, rfl, s0⟩ := h
      obtain ⟨z, rfl⟩ := cells_int (more := [0, 1]) hx
      refine ⟨_, rfl, z, rfl, fun aw H1 nA sA wA => ?_⟩
      have w1 := wA.mono (show 2000 ≤ 1099511627776 by decide)
      refine ⟨_, rfl, _, rfl, aw, 3, 1950, rfl, by decide, w1, fun H2 ps zs nps s2 w2 eps nok => ?_⟩
      have psa : ps ≠ aw := w1.ne nps
      refine ⟨aw, ps, zs, 1837, rfl, w2, by rw [hid_ne psa]; exact eps, by rw [nok.len]; decide, by rw [nok.len]; decide, nok.all, fun H3 p xs rs bk ne l14 s3 w3 ep ap => ?_⟩
      have sB : Same H0 (hid aw H3) := s0.trans (sA.trans (s2.trans s3))
      dsimp only [gName]
      refine seq_fin (t := tIfS _ _ _) (fun σ H' => ∃ (p : Addr) (xs : List V) (rs : List Rw), σ = [some (.ref a), some (.int z), some (.ref aw), some (.ref p), y4, y5, y6] ∧ BkOk rs ∧ rs ≠ [] ∧ rs.length ≤ 74 ∧ Same H0 H' ∧ H' p = some (.lst xs) ∧ AllAre (IsRw SL H') xs rs) (fun σ H4 h => ?_) (fun kn => ?_)
      · obtain ⟨p, xs, rs, rfl, bk, ne, l74, s4, ep, ap⟩ := h
        refine ⟨_, rfl, p, xs, rs, rfl, ep, ap, bk, by omega, fun H5 b ys s5 eb ab => ?_⟩
        have ep5 := s5 _ _ ep
        have ap5 := ap.imp fun _ _ h => h.mono SL.m s5
        have lx : xs.length = rs.length := ap.1
        have ly : ys.length = rs.length := ab.1
        have l0 : 0 < rs.length := by
          cases rs with
          | nil => exact absurd rfl ne
          | cons _ _ => simp
        refine ⟨_, rfl, p, _, rfl, .inl (SqL.of ep5), _, _, rfl, rfl, 1, _, rfl, ⟨by decide, by decide, ?_, ?_⟩, ?_⟩
        · show -(2 ^ 62 : Int) ≤ ((xs.length : Nat) : Int) + 1
          omega
        · show ((xs.length : Nat) : Int) + 1 < 2 ^ 62
          omega
        have en : ((((xs.length : Nat) : Int) + 1) - 1).toNat = rs.length := by omega
        refine for_range (lo := 1) (n := ((((xs.length : Nat) : Int) + 1) - 1).toNat) (fun j σ H' => ∃ y5 y6, σ = [some (.ref a), some (.int z), some (.ref aw), some (.ref p), some (.ref b), y5, y6] ∧ Same H5 H') ⟨_, _, rfl, Same.refl _⟩ (fun j σ H6 hj h => ?_) (fun σ H6 h => ?_)
        · obtain ⟨y5, y6, rfl, s6⟩ := h
          rw [en] at hj
          have ej : ((1 : Int) + (j : Int)) = ((j + 1 : Nat) : Int) := by omega
          refine ⟨_, rfl, _, rfl, _, rfl, b, _, rfl, SqL.of (s6 _ _ eb), fun c nc => ?_⟩
          rw [ej, cut_tok]
          have sc := same_upd (o := .lst (ys.take (j + 1))) nc
          have tne : rs.take (j + 1) ≠ [] := fun z => by
            have := congrArg List.length z
            rw [List.length_take, List.length_nil] at this
            omega
          refine ⟨c, _, rs.take (j + 1), rfl, upd_same, (ab.imp fun _ _ h => h.mono (SB.m _) (s6.trans sc)).take (j + 1), bk.take _, tne, by rw [List.length_take]; omega, fun H7 s7 => ?_⟩
          refine ⟨_, rfl, _, _, _, _, true, rfl, .ty _, .base (.int _), kit_ty (by decide +kernel), true, rfl, iteF ?_⟩
          refine ⟨_, rfl, _, _, _, _, false, rfl, .ty _, .base (.int _), kit_ty (by decide +kernel), false, rfl, iteF ?_⟩
          have s67 : Same H6 H7 := sc.trans s7
          refine ⟨_, rfl, _, rfl, _, rfl, _, rfl, p, _, rfl, SqL.of (s67 _ _ (s6 _ _ ep5)), fun c' nc' => ?_⟩
          rw [cut_tok]
          have sc' := same_upd (o := .lst (xs.take (j + 1))) nc'
          refine ⟨c', _, rs.take (j + 1), rfl, upd_same, (ap5.imp fun _ _ h => h.mono SL.m (s6.trans (s67.trans sc'))).take (j + 1), bk.take _, tne, by rw [List.length_take]; omega, fun H8 s8 => ?_⟩
          refine ⟨rfl, _, rfl, ?_⟩
          rw [decide_eq_true rfl]
          exact iteF ⟨_, _, rfl, s6.trans (s67.trans (sc'.trans s8))⟩
        · obtain ⟨y5, y6, rfl, s6⟩ := h
          refine ⟨_, rfl, b, _, rfl, .inl (SqL.of (s6 _ _ eb)), _, rfl, p, _, rfl, .inl (SqL.of (s6 _ _ ep5)), rfl, _, rfl, ?_⟩
          rw [decide_eq_true (show V.int ((ys.length : Nat) : Int) = V.int ((xs.length : Nat) : Int) by rw [ly, lx])]
          refine iteF ?_
          refine ⟨_, rfl, SB T.c_Share, b, ys, rs, rfl, SB.m _, s6 _ _ eb, ab.imp fun _ _ h => h.mono (SB.m _) s6, bk, by omega, fun H7 b7 ys7 s7 e7 a7 => ?_⟩
          refine ⟨_, rfl, SL, p, xs, rs, rfl, SL.m, s7 _ _ (s6 _ _ ep5), ap5.imp fun _ _ h => h.mono SL.m (s6.trans s7), bk, by omega, fun H8 b8 ys8 s8 e8 a8 => ?_⟩
          refine ne_hds bk (s8 _ _ e7) e8 (a7.imp fun _ _ h => h.mono s8) a8 ⟨false, rfl, iteF ?_⟩
          exact ⟨_, _, _, _, _, _, rfl, s4.trans (s5.trans (s6.trans (s7.trans s8)))⟩
      · refine ⟨_, rfl, aw, 6, 1836, rfl, w3, by decide, by decide, fun d H4 d0 d1 s4 w4 => ⟨rfl, _, rfl, ite2 (fun h => ?_) (fun h => ?_)⟩⟩
        · refine ⟨_, rfl, _, rfl, aw, p, xs, rs, 1776, rfl, w4, s4 _ _ ep, ap.imp fun _ _ h => h.mono SL.m s4, bk, ne, l14, fun H5 b ys rs' bk' ne' l74 s5 w5 eb ab => ?_⟩
          exact kn _ _ ⟨b, ys, rs', rfl, bk', ne', l74, (sB.trans (s4.trans s5)).trans hid_same, hid_same _ _ eb, ab.imp fun _ _ h => h.mono SL.m hid_same⟩
        · exact kn _ _ ⟨p, xs, rs, rfl, bk, ne, by omega, (sB.trans s4).trans hid_same, hid_same _ _ (s4 _ _ ep), ap.imp fun _ _ h => (h.mono SL.m s4).mono SL.m hid_same⟩
    · obtain ⟨_, _, _, _, _, _, rfl, _⟩ := h
      exact q _
end

end Fb

namespace Fb
open PySem PySem.Spec PyProof.Rows L2
set_option maxHeartbeats 4000000 in
theorem all_mk {l : PySem.W.OpenLaw} {w : World} {K : PySem.W.Frag} {h : Heap} {mg : Str → Option Value} {fa : Addr} (X : K.In h) (G : h.Ns mainGlobals mg) (hfa : mg "law" = some (.ref fa))
    {c_FarError c_NoShare c_NoBook c_Share f_p_is_whole f_p_is_name f_p_written f_m_Share_init t_m_Share_init f_m_Share_eq f_m_Share_str f_p_common_part f_p_is_such f_p_is_row f_p_check_book f_p_depths_of f_p_deep f_l_well f_l_draw f_l_one f_l_names f_l_low f_l_share f_l_row f_l_rows f_l_book f_l_depth f_l_doubled f_l_heads f_law u_FORMS t_FORMS_0 t_FORMS_1 t_FORMS_2 t_FORMS_3 t_FORMS_4 t_FORMS_5 t_FORMS_6 : Addr} {od_p_is_whole an_p_is_whole od_p_is_name an_p_is_name od_p_written an_p_written od_m_Share_init an_m_Share_init odt_m_Share_init od_m_Share_eq an_m_Share_eq od_m_Share_str an_m_Share_str od_p_common_part an_p_common_part od_p_is_such an_p_is_such od_p_is_row an_p_is_row od_p_check_book an_p_check_book od_p_depths_of an_p_depths_of od_p_deep an_p_deep od_l_well an_l_well od_l_draw an_l_draw od_l_one an_l_one od_l_names an_l_names od_l_low an_l_low od_l_share an_l_share od_l_row an_l_row od_l_rows an_l_rows od_l_book an_l_book od_l_depth an_l_depth od_l_doubled an_l_doubled od_l_heads an_l_heads od_law an_law : Option Addr} {sl_p_is_whole sl_p_is_name sl_p_written sl_m_Share_init slt_m_Share_init sl_m_Share_eq sl_m_Share_str sl_p_common_part sl_p_is_such sl_p_is_row sl_p_check_book sl_p_depths_of sl_p_deep sl_l_well sl_l_draw sl_l_one sl_l_names sl_l_low sl_l_share sl_l_row sl_l_rows sl_l_book sl_l_depth sl_l_doubled sl_l_heads sl_law : Array (Option Value)} {oc_p_is_whole kV_p_is_whole dc_p_is_whole pm_p_is_whole cd_p_is_whole ct_p_is_whole oc_p_is_name kV_p_is_name dc_p_is_name pm_p_is_name cd_p_is_name ct_p_is_name oc_p_written kV_p_written dc_p_written pm_p_written cd_p_written ct_p_written oc_m_Share_init kV_m_Share_init dc_m_Share_init pm_m_Share_init cd_m_Share_init ct_m_Share_init oct_m_Share_init oc_m_Share_eq kV_m_Share_eq dc_m_Share_eq pm_m_Share_eq cd_m_Share_eq ct_m_Share_eq oc_m_Share_str kV_m_Share_str dc_m_Share_str pm_m_Share_str cd_m_Share_str ct_m_Share_str oc_p_common_part kV_p_common_part dc_p_common_part pm_p_common_part cd_p_common_part ct_p_common_part oc_p_is_such kV_p_is_such dc_p_is_such pm_p_is_such cd_p_is_such ct_p_is_such oc_p_is_row kV_p_is_row dc_p_is_row pm_p_is_row cd_p_is_row ct_p_is_row oc_p_check_book kV_p_check_book dc_p_check_book pm_p_check_book cd_p_check_book ct_p_check_book oc_p_depths_of kV_p_depths_of dc_p_depths_of pm_p_depths_of cd_p_depths_of ct_p_depths_of oc_p_deep kV_p_deep dc_p_deep pm_p_deep cd_p_deep ct_p_deep oc_l_well kV_l_well dc_l_well pm_l_well cd_l_well ct_l_well oc_l_draw kV_l_draw dc_l_draw pm_l_draw cd_l_draw ct_l_draw oc_l_one kV_l_one dc_l_one pm_l_one cd_l_one ct_l_one oc_l_names kV_l_names dc_l_names pm_l_names cd_l_names ct_l_names oc_l_low kV_l_low dc_l_low pm_l_low cd_l_low ct_l_low oc_l_share kV_l_share dc_l_share pm_l_share cd_l_share ct_l_share oc_l_row kV_l_row dc_l_row pm_l_row cd_l_row ct_l_row oc_l_rows kV_l_rows dc_l_rows pm_l_rows cd_l_rows ct_l_rows oc_l_book kV_l_book dc_l_book pm_l_book cd_l_book ct_l_book oc_l_depth kV_l_depth dc_l_depth pm_l_depth cd_l_depth ct_l_depth oc_l_doubled kV_l_doubled dc_l_doubled pm_l_doubled cd_l_doubled ct_l_doubled oc_l_heads kV_l_heads dc_l_heads pm_l_heads cd_l_heads ct_l_heads oc_law kV_law dc_law pm_law cd_law ct_law : Value} {tk0_m_Share_init : _} {tkc_LETTERS : _} {tkc_LONGEST_NAME : _} {tkc_PIECE_LENGTH : _} {nt_m_Share_init : _} {e_FORMS : Array DictEntry} {n_FORMS : Nat}  {nd_FORMS_0 : _} {od_FORMS_0 : Option Addr} {sd_FORMS_0 : Array (Option Value)}  {td0_FORMS_1 : _} {nd_FORMS_1 : _} {od_FORMS_1 : Option Addr} {sd_FORMS_1 : Array (Option Value)}  {td0_FORMS_2 : _} {td1_FORMS_2 : _} {nd_FORMS_2 : _} {od_FORMS_2 : Option Addr} {sd_FORMS_2 : Array (Option Value)}  {td0_FORMS_3 : _} {nd_FORMS_3 : _} {od_FORMS_3 : Option Addr} {sd_FORMS_3 : Array (Option Value)}  {td0_FORMS_4 : _} {td1_FORMS_4 : _} {nd_FORMS_4 : _} {od_FORMS_4 : Option Addr} {sd_FORMS_4 : Array (Option Value)}  {td0_FORMS_5 : _} {td1_FORMS_5 : _} {nd_FORMS_5 : _} {od_FORMS_5 : Option Addr} {sd_FORMS_5 : Array (Option Value)}  {td0_FORMS_6 : _} {td1_FORMS_6 : _} {nd_FORMS_6 : _} {od_FORMS_6 : Option Addr} {sd_FORMS_6 : Array (Option Value)}
    (a_FarError : PySem.W.nsIn K mainGlobals "FarError" = some (some (.ref c_FarError)))
    (a_NoShare : PySem.W.nsIn K mainGlobals "NoShare" = some (some (.ref c_NoShare)))
    (a_NoBook : PySem.W.nsIn K mainGlobals "NoBook" = some (some (.ref c_NoBook)))
    (a_Share : PySem.W.nsIn K mainGlobals "Share" = some (some (.ref c_Share)))
    (a_p_is_whole : PySem.W.nsIn K mainGlobals "is_whole" = some (some (.ref f_p_is_whole)))
    (l_p_is_whole : K.lookup f_p_is_whole = some ⟨oc_p_is_whole, od_p_is_whole, .func (PySem.W.fnOf "is_whole" "is_whole" (defArgs s_p_is_whole) (defBody s_p_is_whole) (defScope s_p_is_whole) .none kV_p_is_whole dc_p_is_whole pm_p_is_whole an_p_is_whole cd_p_is_whole ct_p_is_whole), sl_p_is_whole⟩)
    (c_p_is_whole_ : PySem.W.codeIn K cd_p_is_whole "is_whole" = true)
    (k_p_is_whole_ : PySem.W.keepIn K (.ref f_p_is_whole) = true)
    (a_p_is_name : PySem.W.nsIn K mainGlobals "is_name" = some (some (.ref f_p_is_name)))
    (l_p_is_name : K.lookup f_p_is_name = some ⟨oc_p_is_name, od_p_is_name, .func (PySem.W.fnOf "is_name" "is_name" (defArgs s_p_is_name) (defBody s_p_is_name) (defScope s_p_is_name) .none kV_p_is_name dc_p_is_name pm_p_is_name an_p_is_name cd_p_is_name ct_p_is_name), sl_p_is_name⟩)
    (c_p_is_name_ : PySem.W.codeIn K cd_p_is_name "is_name" = true)
    (k_p_is_name_ : PySem.W.keepIn K (.ref f_p_is_name) = true)
    (a_p_written : PySem.W.nsIn K mainGlobals "written" = some (some (.ref f_p_written)))
    (l_p_written : K.lookup f_p_written = some ⟨oc_p_written, od_p_written, .func (PySem.W.fnOf "written" "written" (defArgs s_p_written) (defBody s_p_written) (defScope s_p_written) .none kV_p_written dc_p_written pm_p_written an_p_written cd_p_written ct_p_written), sl_p_written⟩)
    (c_p_written_ : PySem.W.codeIn K cd_p_written "written" = true)
    (k_p_written_ : PySem.W.keepIn K (.ref f_p_written) = true)
    (a_m_Share_init : PySem.W.findIn K (.ref c_Share) "__init__" = some (some (.ref f_m_Share_init)))
    (l_m_Share_init : K.lookup f_m_Share_init = some ⟨oc_m_Share_init, od_m_Share_init, .func (PySem.W.fnOf "__init__" "Share.__init__" (defArgs s_m_Share_init) (defBody s_m_Share_init) (defScope s_m_Share_init) (.ref t_m_Share_init) kV_m_Share_init dc_m_Share_init pm_m_Share_init an_m_Share_init cd_m_Share_init ct_m_Share_init), sl_m_Share_init⟩)
    (lt_m_Share_init : K.lookup t_m_Share_init = some ⟨oct_m_Share_init, odt_m_Share_init, .seq (List.toArray [Value.int 1 tk0_m_Share_init]) nt_m_Share_init, slt_m_Share_init⟩)
    (c_m_Share_init_ : PySem.W.codeIn K cd_m_Share_init "Share.__init__" = true)
    (k_m_Share_init_ : PySem.W.keepIn K (.ref f_m_Share_init) = true)
    (a_m_Share_eq : PySem.W.findIn K (.ref c_Share) "__eq__" = some (some (.ref f_m_Share_eq)))
    (l_m_Share_eq : K.lookup f_m_Share_eq = some ⟨oc_m_Share_eq, od_m_Share_eq, .func (PySem.W.fnOf "__eq__" "Share.__eq__" (defArgs s_m_Share_eq) (defBody s_m_Share_eq) (defScope s_m_Share_eq) .none kV_m_Share_eq dc_m_Share_eq pm_m_Share_eq an_m_Share_eq cd_m_Share_eq ct_m_Share_eq), sl_m_Share_eq⟩)
    (c_m_Share_eq_ : PySem.W.codeIn K cd_m_Share_eq "Share.__eq__" = true)
    (k_m_Share_eq_ : PySem.W.keepIn K (.ref f_m_Share_eq) = true)
    (a_m_Share_str : PySem.W.findIn K (.ref c_Share) "__str__" = some (some (.ref f_m_Share_str)))
    (l_m_Share_str : K.lookup f_m_Share_str = some ⟨oc_m_Share_str, od_m_Share_str, .func (PySem.W.fnOf "__str__" "Share.__str__" (defArgs s_m_Share_str) (defBody s_m_Share_str) (defScope s_m_Share_str) .none kV_m_Share_str dc_m_Share_str pm_m_Share_str an_m_Share_str cd_m_Share_str ct_m_Share_str), sl_m_Share_str⟩)
    (c_m_Share_str_ : PySem.W.codeIn K cd_m_Share_str "Share.__str__" = true)
    (k_m_Share_str_ : PySem.W.keepIn K (.ref f_m_Share_str) = true)
    (a_p_common_part : PySem.W.nsIn K mainGlobals "common_part" = some (some (.ref f_p_common_part)))
    (l_p_common_part : K.lookup f_p_common_part = some ⟨oc_p_common_part, od_p_common_part, .func (PySem.W.fnOf "common_part" "common_part" (defArgs s_p_common_part) (defBody s_p_common_part) (defScope s_p_common_part) .none kV_p_common_part dc_p_common_part pm_p_common_part an_p_common_part cd_p_common_part ct_p_common_part), sl_p_common_part⟩)
    (c_p_common_part_ : PySem.W.codeIn K cd_p_common_part "common_part" = true)
    (k_p_common_part_ : PySem.W.keepIn K (.ref f_p_common_part) = true)
    (a_p_is_such : PySem.W.nsIn K mainGlobals "is_such" = some (some (.ref f_p_is_such)))
    (l_p_is_such : K.lookup f_p_is_such = some ⟨oc_p_is_such, od_p_is_such, .func (PySem.W.fnOf "is_such" "is_such" (defArgs s_p_is_such) (defBody s_p_is_such) (defScope s_p_is_such) .none kV_p_is_such dc_p_is_such pm_p_is_such an_p_is_such cd_p_is_such ct_p_is_such), sl_p_is_such⟩)
    (c_p_is_such_ : PySem.W.codeIn K cd_p_is_such "is_such" = true)
    (k_p_is_such_ : PySem.W.keepIn K (.ref f_p_is_such) = true)
    (a_p_is_row : PySem.W.nsIn K mainGlobals "is_row" = some (some (.ref f_p_is_row)))
    (l_p_is_row : K.lookup f_p_is_row = some ⟨oc_p_is_row, od_p_is_row, .func (PySem.W.fnOf "is_row" "is_row" (defArgs s_p_is_row) (defBody s_p_is_row) (defScope s_p_is_row) .none kV_p_is_row dc_p_is_row pm_p_is_row an_p_is_row cd_p_is_row ct_p_is_row), sl_p_is_row⟩)
    (c_p_is_row_ : PySem.W.codeIn K cd_p_is_row "is_row" = true)
    (k_p_is_row_ : PySem.W.keepIn K (.ref f_p_is_row) = true)
    (a_p_check_book : PySem.W.nsIn K mainGlobals "check_book" = some (some (.ref f_p_check_book)))
    (l_p_check_book : K.lookup f_p_check_book = some ⟨oc_p_check_book, od_p_check_book, .func (PySem.W.fnOf "check_book" "check_book" (defArgs s_p_check_book) (defBody s_p_check_book) (defScope s_p_check_book) .none kV_p_check_book dc_p_check_book pm_p_check_book an_p_check_book cd_p_check_book ct_p_check_book), sl_p_check_book⟩)
    (c_p_check_book_ : PySem.W.codeIn K cd_p_check_book "check_book" = true)
    (k_p_check_book_ : PySem.W.keepIn K (.ref f_p_check_book) = true)
    (a_p_depths_of : PySem.W.nsIn K mainGlobals "depths_of" = some (some (.ref f_p_depths_of)))
    (l_p_depths_of : K.lookup f_p_depths_of = some ⟨oc_p_depths_of, od_p_depths_of, .func (PySem.W.fnOf "depths_of" "depths_of" (defArgs s_p_depths_of) (defBody s_p_depths_of) (defScope s_p_depths_of) .none kV_p_depths_of dc_p_depths_of pm_p_depths_of an_p_depths_of cd_p_depths_of ct_p_depths_of), sl_p_depths_of⟩)
    (c_p_depths_of_ : PySem.W.codeIn K cd_p_depths_of "depths_of" = true)
    (k_p_depths_of_ : PySem.W.keepIn K (.ref f_p_depths_of) = true)
    (a_p_deep : PySem.W.nsIn K mainGlobals "deep" = some (some (.ref f_p_deep)))
    (l_p_deep : K.lookup f_p_deep = some ⟨oc_p_deep, od_p_deep, .func (PySem.W.fnOf "deep" "deep" (defArgs s_p_deep) (defBody s_p_deep) (defScope s_p_deep) .none kV_p_deep dc_p_deep pm_p_deep an_p_deep cd_p_deep ct_p_deep), sl_p_deep⟩)
    (c_p_deep_ : PySem.W.codeIn K cd_p_deep "deep" = true)
    (k_p_deep_ : PySem.W.keepIn K (.ref f_p_deep) = true)
    (a_l_well : PySem.W.nsIn K mainGlobals "_law_well" = some (some (.ref f_l_well)))
    (l_l_well : K.lookup f_l_well = some ⟨oc_l_well, od_l_well, .func (PySem.W.fnOf "_law_well" "_law_well" (defArgs s_l_well) (defBody s_l_well) (defScope s_l_well) .none kV_l_well dc_l_well pm_l_well an_l_well cd_l_well ct_l_well), sl_l_well⟩)
    (c_l_well_ : PySem.W.codeIn K cd_l_well "_law_well" = true)
    (k_l_well_ : PySem.W.keepIn K (.ref f_l_well) = true)
    (a_l_draw : PySem.W.nsIn K mainGlobals "_law_draw" = some (some (.ref f_l_draw)))
    (l_l_draw : K.lookup f_l_draw = some ⟨oc_l_draw, od_l_draw, .func (PySem.W.fnOf "_law_draw" "_law_draw" (defArgs s_l_draw) (defBody s_l_draw) (defScope s_l_draw) .none kV_l_draw dc_l_draw pm_l_draw an_l_draw cd_l_draw ct_l_draw), sl_l_draw⟩)
    (c_l_draw_ : PySem.W.codeIn K cd_l_draw "_law_draw" = true)
    (k_l_draw_ : PySem.W.keepIn K (.ref f_l_draw) = true)
    (a_l_one : PySem.W.nsIn K mainGlobals "_law_one" = some (some (.ref f_l_one)))
    (l_l_one : K.lookup f_l_one = some ⟨oc_l_one, od_l_one, .func (PySem.W.fnOf "_law_one" "_law_one" (defArgs s_l_one) (defBody s_l_one) (defScope s_l_one) .none kV_l_one dc_l_one pm_l_one an_l_one cd_l_one ct_l_one), sl_l_one⟩)
    (c_l_one_ : PySem.W.codeIn K cd_l_one "_law_one" = true)
    (k_l_one_ : PySem.W.keepIn K (.ref f_l_one) = true)
    (a_l_names : PySem.W.nsIn K mainGlobals "_law_names" = some (some (.ref f_l_names)))
    (l_l_names : K.lookup f_l_names = some ⟨oc_l_names, od_l_names, .func (PySem.W.fnOf "_law_names" "_law_names" (defArgs s_l_names) (defBody s_l_names) (defScope s_l_names) .none kV_l_names dc_l_names pm_l_names an_l_names cd_l_names ct_l_names), sl_l_names⟩)
    (c_l_names_ : PySem.W.codeIn K cd_l_names "_law_names" = true)
    (k_l_names_ : PySem.W.keepIn K (.ref f_l_names) = true)
    (a_l_low : PySem.W.nsIn K mainGlobals "_law_low" = some (some (.ref f_l_low)))
    (l_l_low : K.lookup f_l_low = some ⟨oc_l_low, od_l_low, .func (PySem.W.fnOf "_law_low" "_law_low" (defArgs s_l_low) (defBody s_l_low) (defScope s_l_low) .none kV_l_low dc_l_low pm_l_low an_l_low cd_l_low ct_l_low), sl_l_low⟩)
    (c_l_low_ : PySem.W.codeIn K cd_l_low "_law_low" = true)
    (k_l_low_ : PySem.W.keepIn K (.ref f_l_low) = true)
    (a_l_share : PySem.W.nsIn K mainGlobals "_law_share" = some (some (.ref f_l_share)))
    (l_l_share : K.lookup f_l_share = some ⟨oc_l_share, od_l_share, .func (PySem.W.fnOf "_law_share" "_law_share" (defArgs s_l_share) (defBody s_l_share) (defScope s_l_share) .none kV_l_share dc_l_share pm_l_share an_l_share cd_l_share ct_l_share), sl_l_share⟩)
    (c_l_share_ : PySem.W.codeIn K cd_l_share "_law_share" = true)
    (k_l_share_ : PySem.W.keepIn K (.ref f_l_share) = true)
    (a_l_row : PySem.W.nsIn K mainGlobals "_law_row" = some (some (.ref f_l_row)))
    (l_l_row : K.lookup f_l_row = some ⟨oc_l_row, od_l_row, .func (PySem.W.fnOf "_law_row" "_law_row" (defArgs s_l_row) (defBody s_l_row) (defScope s_l_row) .none kV_l_row dc_l_row pm_l_row an_l_row cd_l_row ct_l_row), sl_l_row⟩)
    (c_l_row_ : PySem.W.codeIn K cd_l_row "_law_row" = true)
    (k_l_row_ : PySem.W.keepIn K (.ref f_l_row) = true)
    (a_l_rows : PySem.W.nsIn K mainGlobals "_law_rows" = some (some (.ref f_l_rows)))
    (l_l_rows : K.lookup f_l_rows = some ⟨oc_l_rows, od_l_rows, .func (PySem.W.fnOf "_law_rows" "_law_rows" (defArgs s_l_rows) (defBody s_l_rows) (defScope s_l_rows) .none kV_l_rows dc_l_rows pm_l_rows an_l_rows cd_l_rows ct_l_rows), sl_l_rows⟩)
    (c_l_rows_ : PySem.W.codeIn K cd_l_rows "_law_rows" = true)
    (k_l_rows_ : PySem.W.keepIn K (.ref f_l_rows) = true)
    (a_l_book : PySem.W.nsIn K mainGlobals "_law_book" = some (some (.ref f_l_book)))
    (l_l_book : K.lookup f_l_book = some ⟨oc_l_book, od_l_book, .func (PySem.W.fnOf "_law_book" "_law_book" (defArgs s_l_book) (defBody s_l_book) (defScope s_l_book) .none kV_l_book dc_l_book pm_l_book an_l_book cd_l_book ct_l_book), sl_l_book⟩)
    (c_l_book_ : PySem.W.codeIn K cd_l_book "_law_book" = true)
    (k_l_book_ : PySem.W.keepIn K (.ref f_l_book) = true)
    (a_l_depth : PySem.W.nsIn K mainGlobals "_law_depth" = some (some (.ref f_l_depth)))
    (l_l_depth : K.lookup f_l_depth = some ⟨oc_l_depth, od_l_depth, .func (PySem.W.fnOf "_law_depth" "_law_depth" (defArgs s_l_depth) (defBody s_l_depth) (defScope s_l_depth) .none kV_l_depth dc_l_depth pm_l_depth an_l_depth cd_l_depth ct_l_depth), sl_l_depth⟩)
    (c_l_depth_ : PySem.W.codeIn K cd_l_depth "_law_depth" = true)
    (k_l_depth_ : PySem.W.keepIn K (.ref f_l_depth) = true)
    (a_l_doubled : PySem.W.nsIn K mainGlobals "_law_doubled" = some (some (.ref f_l_doubled)))
    (l_l_doubled : K.lookup f_l_doubled = some ⟨oc_l_doubled, od_l_doubled, .func (PySem.W.fnOf "_law_doubled" "_law_doubled" (defArgs s_l_doubled) (defBody s_l_doubled) (defScope s_l_doubled) .none kV_l_doubled dc_l_doubled pm_l_doubled an_l_doubled cd_l_doubled ct_l_doubled), sl_l_doubled⟩)
    (c_l_doubled_ : PySem.W.codeIn K cd_l_doubled "_law_doubled" = true)
    (k_l_doubled_ : PySem.W.keepIn K (.ref f_l_doubled) = true)
    (a_l_heads : PySem.W.nsIn K mainGlobals "_law_heads" = some (some (.ref f_l_heads)))
    (l_l_heads : K.lookup f_l_heads = some ⟨oc_l_heads, od_l_heads, .func (PySem.W.fnOf "_law_heads" "_law_heads" (defArgs s_l_heads) (defBody s_l_heads) (defScope s_l_heads) .none kV_l_heads dc_l_heads pm_l_heads an_l_heads cd_l_heads ct_l_heads), sl_l_heads⟩)
    (c_l_heads_ : PySem.W.codeIn K cd_l_heads "_law_heads" = true)
    (k_l_heads_ : PySem.W.keepIn K (.ref f_l_heads) = true)
    (a_law : PySem.W.nsIn K mainGlobals "law" = some (some (.ref f_law)))
    (l_law : K.lookup f_law = some ⟨oc_law, od_law, .func (PySem.W.fnOf "law" "law" (defArgs s_law) (defBody s_law) (defScope s_law) .none kV_law dc_law pm_law an_law cd_law ct_law), sl_law⟩)
    (c_law_ : PySem.W.codeIn K cd_law "law" = true)
    (k_law_ : PySem.W.keepIn K (.ref f_law) = true)
    (pg_Share : PySem.W.plainGet K c_Share Str.empty = true)
    (hd_Share : PySem.W.hasDictIn K c_Share = true)
    (po_Share : PySem.W.plainOver K c_Share = true)
    (sa_Share : PySem.W.findIn K (.ref c_Share) "__setattr__" = some (some (.builtin "object.__setattr__")))
    (mk_Share : PySem.W.makesIn K c_Share = true)
    (kc_Share : PySem.W.keepIn K (.ref c_Share) = true)
    (if_Share : PySem.W.isFn K (.ref f_m_Share_init) = true)
    (ha_Share : PySem.W.findIn K (.ref c_Share) "__class__" = some (some (.builtin "object.__class__")))
    (hn_Share : PySem.W.specialIn K (.builtin "object.__class__") "__get__" = some (some (.builtin "getset_descriptor.__get__")))
    (ht_Share : PySem.W.takesIn K (.builtin "object.__class__") = some true)
    (hm_Share : PySem.W.mroIn K c_Share (.type "object") = some true)
    (n_Share_top : PySem.W.findIn K (.ref c_Share) "top" = some none)
    (n_Share_bottom : PySem.W.findIn K (.ref c_Share) "bottom" = some none)
    (i_m_Share_eq : PySem.W.isFn K (.ref f_m_Share_eq) = true)
    (i_m_Share_str : PySem.W.isFn K (.ref f_m_Share_str) = true)
    (nn_Share : PySem.W.findIn K (.ref c_Share) "__ne__" = some (some (.builtin "object.__ne__")))
    (nf_Share_int : PySem.W.notFirst K c_Share (.type "int") = true)
    (nf_Share_str : PySem.W.notFirst K c_Share (.type "str") = true)
    (nf_Share_NoneType : PySem.W.notFirst K c_Share (.type "NoneType") = true)
    (nf_Share_list : PySem.W.notFirst K c_Share (.type "list") = true)
    (nf_Share_tuple : PySem.W.notFirst K c_Share (.type "tuple") = true)
    (nf_Share_dict : PySem.W.notFirst K c_Share (.type "dict") = true)
    (nf_Share_bool : PySem.W.notFirst K c_Share (.type "bool") = true)
    (ko_Share : PySem.W.kitOne K (.ref c_Share) (.ref c_Share) = some true)
    (ko_Share_int : PySem.W.kitOne K (.type "int") (.ref c_Share) = some false)
    (ko_Share_str : PySem.W.kitOne K (.type "str") (.ref c_Share) = some false)
    (ko_Share_NoneType : PySem.W.kitOne K (.type "NoneType") (.ref c_Share) = some false)
    (ko_Share_list : PySem.W.kitOne K (.type "list") (.ref c_Share) = some false)
    (ko_Share_tuple : PySem.W.kitOne K (.type "tuple") (.ref c_Share) = some false)
    (ko_Share_dict : PySem.W.kitOne K (.type "dict") (.ref c_Share) = some false)
    (ko_Share_bool : PySem.W.kitOne K (.type "bool") (.ref c_Share) = some false)
    (ac_LETTERS : PySem.W.nsIn K mainGlobals "LETTERS" = some (some (Value.str "abcdefghijklmnopqrstuvwxyz" tkc_LETTERS)))
    (ac_LONGEST_NAME : PySem.W.nsIn K mainGlobals "LONGEST_NAME" = some (some (Value.int 8 tkc_LONGEST_NAME)))
    (ac_PIECE_LENGTH : PySem.W.nsIn K mainGlobals "PIECE_LENGTH" = some (some (Value.int 64 tkc_PIECE_LENGTH)))
    (ad_FORMS : PySem.W.nsIn K mainGlobals "FORMS" = some (some (.ref u_FORMS)))
    (al_FORMS : K.lookup u_FORMS = some ⟨.type "dict", none, .dict e_FORMS n_FORMS, #[]⟩)
    (li_FORMS : PySem.W.KeysLit w.params e_FORMS.toList)
    (lo_FORMS : (u_FORMS == sysModules) = false)
    (dk_FORMS_0 : PySem.W.nsIn K u_FORMS "one" = some (some (.ref t_FORMS_0)))
    (dl_FORMS_0 : K.lookup t_FORMS_0 = some ⟨.type "tuple", od_FORMS_0, .seq (List.toArray []) nd_FORMS_0, sd_FORMS_0⟩)
    (dk_FORMS_1 : PySem.W.nsIn K u_FORMS "can" = some (some (.ref t_FORMS_1)))
    (dl_FORMS_1 : K.lookup t_FORMS_1 = some ⟨.type "tuple", od_FORMS_1, .seq (List.toArray [Value.str "sign" td0_FORMS_1]) nd_FORMS_1, sd_FORMS_1⟩)
    (dk_FORMS_2 : PySem.W.nsIn K u_FORMS "on" = some (some (.ref t_FORMS_2)))
    (dl_FORMS_2 : K.lookup t_FORMS_2 = some ⟨.type "tuple", od_FORMS_2, .seq (List.toArray [Value.str "sign" td0_FORMS_2, Value.str "number" td1_FORMS_2]) nd_FORMS_2, sd_FORMS_2⟩)
    (dk_FORMS_3 : PySem.W.nsIn K u_FORMS "not" = some (some (.ref t_FORMS_3)))
    (dl_FORMS_3 : K.lookup t_FORMS_3 = some ⟨.type "tuple", od_FORMS_3, .seq (List.toArray [Value.str "number" td0_FORMS_3]) nd_FORMS_3, sd_FORMS_3⟩)
    (dk_FORMS_4 : PySem.W.nsIn K u_FORMS "less" = some (some (.ref t_FORMS_4)))
    (dl_FORMS_4 : K.lookup t_FORMS_4 = some ⟨.type "tuple", od_FORMS_4, .seq (List.toArray [Value.str "number" td0_FORMS_4, Value.str "share" td1_FORMS_4]) nd_FORMS_4, sd_FORMS_4⟩)
    (dk_FORMS_5 : PySem.W.nsIn K u_FORMS "both" = some (some (.ref t_FORMS_5)))
    (dl_FORMS_5 : K.lookup t_FORMS_5 = some ⟨.type "tuple", od_FORMS_5, .seq (List.toArray [Value.str "number" td0_FORMS_5, Value.str "number" td1_FORMS_5]) nd_FORMS_5, sd_FORMS_5⟩)
    (dk_FORMS_6 : PySem.W.nsIn K u_FORMS "either" = some (some (.ref t_FORMS_6)))
    (dl_FORMS_6 : K.lookup t_FORMS_6 = some ⟨.type "tuple", od_FORMS_6, .seq (List.toArray [Value.str "number" td0_FORMS_6, Value.str "number" td1_FORMS_6]) nd_FORMS_6, sd_FORMS_6⟩)
    (zz_isinstance : PySem.W.nsIn K mainGlobals "isinstance" = some none)
    (zz_int : PySem.W.nsIn K mainGlobals "int" = some none)
    (zz_bool : PySem.W.nsIn K mainGlobals "bool" = some none)
    (zz_all : PySem.W.nsIn K mainGlobals "all" = some none)
    (zz_str : PySem.W.nsIn K mainGlobals "str" = some none)
    (zz_len : PySem.W.nsIn K mainGlobals "len" = some none)
    (zz_divmod : PySem.W.nsIn K mainGlobals "divmod" = some none)
    (zz_abs : PySem.W.nsIn K mainGlobals "abs" = some none)
    (zz_tuple : PySem.W.nsIn K mainGlobals "tuple" = some none)
    (zz_zip : PySem.W.nsIn K mainGlobals "zip" = some none)
    (zz_list : PySem.W.nsIn K mainGlobals "list" = some none)
    (zz_enumerate : PySem.W.nsIn K mainGlobals "enumerate" = some none)
    (zz_max : PySem.W.nsIn K mainGlobals "max" = some none)
    (zz_range : PySem.W.nsIn K mainGlobals "range" = some none)
    : ∃ fd : FuncData, (∀ (s : Shared) (v : Value), BindsTo s fd ⟨[v], []⟩ [("_law_script", v)]) ∧ ∀ base : Heap, K.In base → base.Ns mainGlobals mg → FnOk l.prog w K mg base CX0 14 fa fd ["_law_script"] (spLaw K) := by
  have e := hfa.symm.trans (PySem.W.mg_of X G a_law)
  cases e
  have F_p_is_whole := fun_mk (st := s_p_is_whole) l_p_is_whole c_p_is_whole_ k_p_is_whole_
  have b_p_is_whole := F_p_is_whole.binds (ps := ["thing"]) fun _ _ _ _ _ _ us hl => match us, hl with | [_], _ => rfl
  have F_p_is_name := fun_mk (st := s_p_is_name) l_p_is_name c_p_is_name_ k_p_is_name_
  have b_p_is_name := F_p_is_name.binds (ps := ["thing"]) fun _ _ _ _ _ _ us hl => match us, hl with | [_], _ => rfl
  have F_p_written := fun_mk (st := s_p_written) l_p_written c_p_written_ k_p_written_
  have b_p_written := F_p_written.binds (ps := ["number"]) fun _ _ _ _ _ _ us hl => match us, hl with | [_], _ => rfl
  have F_m_Share_init : FunD K "__init__" "Share.__init__" (defArgs s_m_Share_init) (defBody s_m_Share_init) (defScope s_m_Share_init) [.int 1] [] f_m_Share_init (PySem.W.fnOf "__init__" "Share.__init__" (defArgs s_m_Share_init) (defBody s_m_Share_init) (defScope s_m_Share_init) (.ref t_m_Share_init) kV_m_Share_init dc_m_Share_init pm_m_Share_init an_m_Share_init cd_m_Share_init ct_m_Share_init) := ⟨⟨_, _, _, _, _, _, _, _, _, _, rfl, l_m_Share_init, c_m_Share_init_, .inr ⟨by simp, t_m_Share_init, _, _, _, rfl, lt_m_Share_init, rfl, (.cons ⟨_, rfl⟩ .nil)⟩, .inl rfl⟩, k_m_Share_init_⟩
  have b_m_Share_init : Binds K (PySem.W.fnOf "__init__" "Share.__init__" (defArgs s_m_Share_init) (defBody s_m_Share_init) (defScope s_m_Share_init) (.ref t_m_Share_init) kV_m_Share_init dc_m_Share_init pm_m_Share_init an_m_Share_init cd_m_Share_init ct_m_Share_init) ["self", "top", "bottom"] [] := by
    obtain ⟨ds, v0, b0⟩ := F_m_Share_init.binds1 (ps := ["self", "top", "bottom"]) 3 1 (by simp) rfl fun _ _ _ _ _ _ _ us its h1 h2 => match us, its, h1, h2 with | [_, _, _], [_], _, _ => ⟨_, rfl, rfl⟩
    cases v0
    exact b0
  have e_m_Share_init : ∃ ds, Vals [.int 1] ds ∧ Binds K (PySem.W.fnOf "__init__" "Share.__init__" (defArgs s_m_Share_init) (defBody s_m_Share_init) (defScope s_m_Share_init) (.ref t_m_Share_init) kV_m_Share_init dc_m_Share_init pm_m_Share_init an_m_Share_init cd_m_Share_init ct_m_Share_init) ["self", "top", "bottom"] ds := F_m_Share_init.binds1 2 0 (by simp) rfl fun _ _ _ _ _ _ _ us its h1 h2 => match us, its, h1, h2 with | [_, _], [_], _, _ => ⟨_, rfl, rfl⟩
  have F_m_Share_eq := fun_mk (st := s_m_Share_eq) l_m_Share_eq c_m_Share_eq_ k_m_Share_eq_
  have b_m_Share_eq := F_m_Share_eq.binds (ps := ["self", "other"]) fun _ _ _ _ _ _ us hl => match us, hl with | [_, _], _ => rfl
  have F_m_Share_str := fun_mk (st := s_m_Share_str) l_m_Share_str c_m_Share_str_ k_m_Share_str_
  have b_m_Share_str := F_m_Share_str.binds (ps := ["self"]) fun _ _ _ _ _ _ us hl => match us, hl with | [_], _ => rfl
  have F_p_common_part := fun_mk (st := s_p_common_part) l_p_common_part c_p_common_part_ k_p_common_part_
  have b_p_common_part := F_p_common_part.binds (ps := ["one", "other"]) fun _ _ _ _ _ _ us hl => match us, hl with | [_, _], _ => rfl
  have F_p_is_such := fun_mk (st := s_p_is_such) l_p_is_such c_p_is_such_ k_p_is_such_
  have b_p_is_such := F_p_is_such.binds (ps := ["thing", "kind", "at"]) fun _ _ _ _ _ _ us hl => match us, hl with | [_, _, _], _ => rfl
  have F_p_is_row := fun_mk (st := s_p_is_row) l_p_is_row c_p_is_row_ k_p_is_row_
  have b_p_is_row := F_p_is_row.binds (ps := ["thing", "at"]) fun _ _ _ _ _ _ us hl => match us, hl with | [_, _], _ => rfl
  have F_p_check_book := fun_mk (st := s_p_check_book) l_p_check_book c_p_check_book_ k_p_check_book_
  have b_p_check_book := F_p_check_book.binds (ps := ["thing"]) fun _ _ _ _ _ _ us hl => match us, hl with | [_], _ => rfl
  have F_p_depths_of := fun_mk (st := s_p_depths_of) l_p_depths_of c_p_depths_of_ k_p_depths_of_
  have b_p_depths_of := F_p_depths_of.binds (ps := ["book"]) fun _ _ _ _ _ _ us hl => match us, hl with | [_], _ => rfl
  have F_p_deep := fun_mk (st := s_p_deep) l_p_deep c_p_deep_ k_p_deep_
  have b_p_deep := F_p_deep.binds (ps := ["book"]) fun _ _ _ _ _ _ us hl => match us, hl with | [_], _ => rfl
  have F_l_well := fun_mk (st := s_l_well) l_l_well c_l_well_ k_l_well_
  have b_l_well := F_l_well.binds (ps := ["_law_cell"]) fun _ _ _ _ _ _ us hl => match us, hl with | [_], _ => rfl
  have F_l_draw := fun_mk (st := s_l_draw) l_l_draw c_l_draw_ k_l_draw_
  have b_l_draw := F_l_draw.binds (ps := ["_law_well_here", "_law_many"]) fun _ _ _ _ _ _ us hl => match us, hl with | [_, _], _ => rfl
  have F_l_one := fun_mk (st := s_l_one) l_l_one c_l_one_ k_l_one_
  have b_l_one := F_l_one.binds (ps := ["_law_well_here", "_law_some"]) fun _ _ _ _ _ _ us hl => match us, hl with | [_, _], _ => rfl
  have F_l_names := fun_mk (st := s_l_names) l_l_names c_l_names_ k_l_names_
  have b_l_names := F_l_names.binds (ps := ["_law_well_here", "_law_many"]) fun _ _ _ _ _ _ us hl => match us, hl with | [_, _], _ => rfl
  have F_l_low := fun_mk (st := s_l_low) l_l_low c_l_low_ k_l_low_
  have b_l_low := F_l_low.binds (ps := ["_law_top", "_law_bottom"]) fun _ _ _ _ _ _ us hl => match us, hl with | [_, _], _ => rfl
  have F_l_share := fun_mk (st := s_l_share) l_l_share c_l_share_ k_l_share_
  have b_l_share := F_l_share.binds (ps := ["_law_well_here"]) fun _ _ _ _ _ _ us hl => match us, hl with | [_], _ => rfl
  have F_l_row := fun_mk (st := s_l_row) l_l_row c_l_row_ k_l_row_
  have b_l_row := F_l_row.binds (ps := ["_law_well_here", "_law_signs", "_law_at"]) fun _ _ _ _ _ _ us hl => match us, hl with | [_, _, _], _ => rfl
  have F_l_rows := fun_mk (st := s_l_rows) l_l_rows c_l_rows_ k_l_rows_
  have b_l_rows := F_l_rows.binds (ps := ["_law_well_here", "_law_signs", "_law_most"]) fun _ _ _ _ _ _ us hl => match us, hl with | [_, _, _], _ => rfl
  have F_l_book := fun_mk (st := s_l_book) l_l_book c_l_book_ k_l_book_
  have b_l_book := F_l_book.binds (ps := ["_law_rows_here"]) fun _ _ _ _ _ _ us hl => match us, hl with | [_], _ => rfl
  have F_l_depth := fun_mk (st := s_l_depth) l_l_depth c_l_depth_ k_l_depth_
  have b_l_depth := F_l_depth.binds (ps := ["_law_rows_here"]) fun _ _ _ _ _ _ us hl => match us, hl with | [_], _ => rfl
  have F_l_doubled := fun_mk (st := s_l_doubled) l_l_doubled c_l_doubled_ k_l_doubled_
  have b_l_doubled := F_l_doubled.binds (ps := ["_law_well_here", "_law_rows_here", "_law_many"]) fun _ _ _ _ _ _ us hl => match us, hl with | [_, _, _], _ => rfl
  have F_l_heads := fun_mk (st := s_l_heads) l_l_heads c_l_heads_ k_l_heads_
  have b_l_heads := F_l_heads.binds (ps := ["_law_rows_here"]) fun _ _ _ _ _ _ us hl => match us, hl with | [_], _ => rfl
  have F_law := fun_mk (st := s_law) l_law c_law_ k_law_
  have b_law := F_law.binds (ps := ["_law_script"]) fun _ _ _ _ _ _ us hl => match us, hl with | [_], _ => rfl
  exact ⟨PySem.W.fnOf "law" "law" (defArgs s_law) (defBody s_law) (defScope s_law) .none kV_law dc_law pm_law an_law cd_law ct_law, fun s v => .of_eq rfl, fun base _ _ => ok_law (⟨c_FarError, (PySem.W.mg_of X G a_FarError), c_NoShare, (PySem.W.mg_of X G a_NoShare), c_NoBook, (PySem.W.mg_of X G a_NoBook), c_Share, (PySem.W.mg_of X G a_Share), f_p_is_whole, _, F_p_is_whole, b_p_is_whole, (PySem.W.mg_of X G a_p_is_whole), f_p_is_name, _, F_p_is_name, b_p_is_name, (PySem.W.mg_of X G a_p_is_name), f_p_written, _, F_p_written, b_p_written, (PySem.W.mg_of X G a_p_written), f_m_Share_init, _, F_m_Share_init, b_m_Share_init, e_m_Share_init, f_m_Share_eq, _, F_m_Share_eq, b_m_Share_eq, f_m_Share_str, _, F_m_Share_str, b_m_Share_str, f_p_common_part, _, F_p_common_part, b_p_common_part, (PySem.W.mg_of X G a_p_common_part), f_p_is_such, _, F_p_is_such, b_p_is_such, (PySem.W.mg_of X G a_p_is_such), f_p_is_row, _, F_p_is_row, b_p_is_row, (PySem.W.mg_of X G a_p_is_row), f_p_check_book, _, F_p_check_book, b_p_check_book, (PySem.W.mg_of X G a_p_check_book), f_p_depths_of, _, F_p_depths_of, b_p_depths_of, (PySem.W.mg_of X G a_p_depths_of), f_p_deep, _, F_p_deep, b_p_deep, (PySem.W.mg_of X G a_p_deep), f_l_well, _, F_l_well, b_l_well, (PySem.W.mg_of X G a_l_well), f_l_draw, _, F_l_draw, b_l_draw, (PySem.W.mg_of X G a_l_draw), f_l_one, _, F_l_one, b_l_one, (PySem.W.mg_of X G a_l_one), f_l_names, _, F_l_names, b_l_names, (PySem.W.mg_of X G a_l_names), f_l_low, _, F_l_low, b_l_low, (PySem.W.mg_of X G a_l_low), f_l_share, _, F_l_share, b_l_share, (PySem.W.mg_of X G a_l_share), f_l_row, _, F_l_row, b_l_row, (PySem.W.mg_of X G a_l_row), f_l_rows, _, F_l_rows, b_l_rows, (PySem.W.mg_of X G a_l_rows), f_l_book, _, F_l_book, b_l_book, (PySem.W.mg_of X G a_l_book), f_l_depth, _, F_l_depth, b_l_depth, (PySem.W.mg_of X G a_l_depth), f_l_doubled, _, F_l_doubled, b_l_doubled, (PySem.W.mg_of X G a_l_doubled), f_l_heads, _, F_l_heads, b_l_heads, (PySem.W.mg_of X G a_l_heads), _, _, F_law, b_law, (PySem.W.mg_of X G a_law), ⟨pg_Share, hd_Share, po_Share, sa_Share⟩, ⟨mk_Share, a_m_Share_init, if_Share, kc_Share⟩, ⟨ha_Share, hn_Share, ht_Share, hm_Share⟩, n_Share_top, n_Share_bottom, ⟨a_m_Share_eq, i_m_Share_eq, k_m_Share_eq_⟩, ⟨a_m_Share_str, i_m_Share_str, k_m_Share_str_⟩, nn_Share, nf_Share_int, nf_Share_str, nf_Share_NoneType, nf_Share_list, nf_Share_tuple, nf_Share_dict, nf_Share_bool, ko_Share, ko_Share_int, ko_Share_str, ko_Share_NoneType, ko_Share_list, ko_Share_tuple, ko_Share_dict, ko_Share_bool, _, (PySem.W.mg_of X G ac_LETTERS), ⟨_, rfl⟩, _, (PySem.W.mg_of X G ac_LONGEST_NAME), ⟨_, rfl⟩, _, (PySem.W.mg_of X G ac_PIECE_LENGTH), ⟨_, rfl⟩, w.params, u_FORMS, (PySem.W.mg_of X G ad_FORMS), e_FORMS, n_FORMS, al_FORMS, li_FORMS, lo_FORMS, t_FORMS_0, dk_FORMS_0, ⟨_, _, _, dl_FORMS_0, rfl, rfl, by simp [sizeLine], .nil⟩, t_FORMS_1, dk_FORMS_1, ⟨_, _, _, dl_FORMS_1, rfl, rfl, by simp [sizeLine], (.cons ⟨_, rfl⟩ .nil)⟩, t_FORMS_2, dk_FORMS_2, ⟨_, _, _, dl_FORMS_2, rfl, rfl, by simp [sizeLine], (.cons ⟨_, rfl⟩ (.cons ⟨_, rfl⟩ .nil))⟩, t_FORMS_3, dk_FORMS_3, ⟨_, _, _, dl_FORMS_3, rfl, rfl, by simp [sizeLine], (.cons ⟨_, rfl⟩ .nil)⟩, t_FORMS_4, dk_FORMS_4, ⟨_, _, _, dl_FORMS_4, rfl, rfl, by simp [sizeLine], (.cons ⟨_, rfl⟩ (.cons ⟨_, rfl⟩ .nil))⟩, t_FORMS_5, dk_FORMS_5, ⟨_, _, _, dl_FORMS_5, rfl, rfl, by simp [sizeLine], (.cons ⟨_, rfl⟩ (.cons ⟨_, rfl⟩ .nil))⟩, t_FORMS_6, dk_FORMS_6, ⟨_, _, _, dl_FORMS_6, rfl, rfl, by simp [sizeLine], (.cons ⟨_, rfl⟩ (.cons ⟨_, rfl⟩ .nil))⟩, (PySem.W.mg_none_of X G zz_isinstance), (PySem.W.mg_none_of X G zz_int), (PySem.W.mg_none_of X G zz_bool), (PySem.W.mg_none_of X G zz_all), (PySem.W.mg_none_of X G zz_str), (PySem.W.mg_none_of X G zz_len), (PySem.W.mg_none_of X G zz_divmod), (PySem.W.mg_none_of X G zz_abs), (PySem.W.mg_none_of X G zz_tuple), (PySem.W.mg_none_of X G zz_zip), (PySem.W.mg_none_of X G zz_list), (PySem.W.mg_none_of X G zz_enumerate), (PySem.W.mg_none_of X G zz_max), (PySem.W.mg_none_of X G zz_range)⟩ : Txt K mg) rfl⟩
end Fb
open PySem PySem.W PyProof.Rows
set_option maxRecDepth 100000 in
set_option maxHeartbeats 0 in
theorem PySem.Challenge.cw_farbetween_k53_how_deep_books_are_holds : PySem.Challenge.rw_farbetween_k53_how_deep_books_are.Holds := by
  w_on; o_law; k_head; (case hw => w_witness2)
  k_fill
  refine L2.walk_of (l := PySem.Challenge.rw_farbetween_k53_how_deep_books_are) (n := 63) (k := 14) (x := "_law_script") (CX := fun _ => L2.CX0) (sp := fun w => Fb.spLaw _) rfl (by decide) rfl ⟨rfl, by decide, by decide⟩ (fun w h Y => PySem.W.kIn_of Y) ?F (fun _ _ a ns hl _ hS => ⟨a, ns, rfl, hS, hl, fun _ => rfl⟩) (fun _ _ _ _ _ h => h)
  case F =>
    intro w mg fa h KX G hmg
    refine' Fb.all_mk KX G hmg ?a_FarError ?a_NoShare ?a_NoBook ?a_Share ?a_p_is_whole ?l_p_is_whole ?c_p_is_whole_ ?k_p_is_whole_ ?a_p_is_name ?l_p_is_name ?c_p_is_name_ ?k_p_is_name_ ?a_p_written ?l_p_written ?c_p_written_ ?k_p_written_ ?a_m_Share_init ?l_m_Share_init ?lt_m_Share_init ?c_m_Share_init_ ?k_m_Share_init_ ?a_m_Share_eq ?l_m_Share_eq ?c_m_Share_eq_ ?k_m_Share_eq_ ?a_m_Share_str ?l_m_Share_str ?c_m_Share_str_ ?k_m_Share_str_ ?a_p_common_part ?l_p_common_part ?c_p_common_part_ ?k_p_common_part_ ?a_p_is_such ?l_p_is_such ?c_p_is_such_ ?k_p_is_such_ ?a_p_is_row ?l_p_is_row ?c_p_is_row_ ?k_p_is_row_ ?a_p_check_book ?l_p_check_book ?c_p_check_book_ ?k_p_check_book_ ?a_p_depths_of ?l_p_depths_of ?c_p_depths_of_ ?k_p_depths_of_ ?a_p_deep ?l_p_deep ?c_p_deep_ ?k_p_deep_ ?a_l_well ?l_l_well ?c_l_well_ ?k_l_well_ ?a_l_draw ?l_l_draw ?c_l_draw_ ?k_l_draw_ ?a_l_one ?l_l_one ?c_l_one_ ?k_l_one_ ?a_l_names ?l_l_names ?c_l_names_ ?k_l_names_ ?a_l_low ?l_l_low ?c_l_low_ ?k_l_low_ ?a_l_share ?l_l_share ?c_l_share_ ?k_l_share_ ?a_l_row ?l_l_row ?c_l_row_ ?k_l_row_ ?a_l_rows ?l_l_rows ?c_l_rows_ ?k_l_rows_ ?a_l_book ?l_l_book ?c_l_book_ ?k_l_book_ ?a_l_depth ?l_l_depth ?c_l_depth_ ?k_l_depth_ ?a_l_doubled ?l_l_doubled ?c_l_doubled_ ?k_l_doubled_ ?a_l_heads ?l_l_heads ?c_l_heads_ ?k_l_heads_ ?a_law ?l_law ?c_law_ ?k_law_ ?pg_Share ?hd_Share ?po_Share ?sa_Share ?mk_Share ?kc_Share ?if_Share ?ha_Share ?hn_Share ?ht_Share ?hm_Share ?n_Share_top ?n_Share_bottom ?i_m_Share_eq ?i_m_Share_str ?nn_Share ?nf_Share_int ?nf_Share_str ?nf_Share_NoneType ?nf_Share_list ?nf_Share_tuple ?nf_Share_dict ?nf_Share_bool ?ko_Share ?ko_Share_int ?ko_Share_str ?ko_Share_NoneType ?ko_Share_list ?ko_Share_tuple ?ko_Share_dict ?ko_Share_bool ?ac_LETTERS ?ac_LONGEST_NAME ?ac_PIECE_LENGTH ?ad_FORMS ?al_FORMS ?li_FORMS ?lo_FORMS ?dk_FORMS_0 ?dl_FORMS_0 ?dk_FORMS_1 ?dl_FORMS_1 ?dk_FORMS_2 ?dl_FORMS_2 ?dk_FORMS_3 ?dl_FORMS_3 ?dk_FORMS_4 ?dl_FORMS_4 ?dk_FORMS_5 ?dl_FORMS_5 ?dk_FORMS_6 ?dl_FORMS_6 ?zz_isinstance ?zz_int ?zz_bool ?zz_all ?zz_str ?zz_len ?zz_divmod ?zz_abs ?zz_tuple ?zz_zip ?zz_list ?zz_enumerate ?zz_max ?zz_range
    (case a_FarError => k_is)
    (case a_NoShare => k_is)
    (case a_NoBook => k_is)
    (case a_Share => k_is)
    (case a_p_is_whole => k_is)
    (case l_p_is_whole => k_is)
    (case c_p_is_whole_ => k_is)
    (case k_p_is_whole_ => k_is)
    (case a_p_is_name => k_is)
    (case l_p_is_name => k_is)
    (case c_p_is_name_ => k_is)
    (case k_p_is_name_ => k_is)
    (case a_p_written => k_is)
    (case l_p_written => k_is)
    (case c_p_written_ => k_is)
    (case k_p_written_ => k_is)
    (case a_m_Share_init => k_is)
    (case l_m_Share_init => k_is)
    (case lt_m_Share_init => k_is)
    (case c_m_Share_init_ => k_is)
    (case k_m_Share_init_ => k_is)
    (case a_m_Share_eq => k_is)
    (case l_m_Share_eq => k_is)
    (case c_m_Share_eq_ => k_is)
    (case k_m_Share_eq_ => k_is)
    (case a_m_Share_str => k_is)
    (case l_m_Share_str => k_is)
    (case c_m_Share_str_ => k_is)
    (case k_m_Share_str_ => k_is)
    (case a_p_common_part => k_is)
    (case l_p_common_part => k_is)
    (case c_p_common_part_ => k_is)
    (case k_p_common_part_ => k_is)
    (case a_p_is_such => k_is)
    (case l_p_is_such => k_is)
    (case c_p_is_such_ => k_is)
    (case k_p_is_such_ => k_is)
    (case a_p_is_row => k_is)
    (case l_p_is_row => k_is)
    (case c_p_is_row_ => k_is)
    (case k_p_is_row_ => k_is)
    (case a_p_check_book => k_is)
    (case l_p_check_book => k_is)
    (case c_p_check_book_ => k_is)
    (case k_p_check_book_ => k_is)
    (case a_p_depths_of => k_is)
    (case l_p_depths_of => k_is)
    (case c_p_depths_of_ => k_is)
    (case k_p_depths_of_ => k_is)
    (case a_p_deep => k_is)
    (case l_p_deep => k_is)
    (case c_p_deep_ => k_is)
    (case k_p_deep_ => k_is)
    (case a_l_well => k_is)
    (case l_l_well => k_is)
    (case c_l_well_ => k_is)
    (case k_l_well_ => k_is)
    (case a_l_draw => k_is)
    (case l_l_draw => k_is)
    (case c_l_draw_ => k_is)
    (case k_l_draw_ => k_is)
    (case a_l_one => k_is)
    (case l_l_one => k_is)
    (case c_l_one_ => k_is)
    (case k_l_one_ => k_is)
    (case a_l_names => k_is)
    (case l_l_names => k_is)
    (case c_l_names_ => k_is)
    (case k_l_names_ => k_is)
    (case a_l_low => k_is)
    (case l_l_low => k_is)
    (case c_l_low_ => k_is)
    (case k_l_low_ => k_is)
    (case a_l_share => k_is)
    (case l_l_share => k_is)
    (case c_l_share_ => k_is)
    (case k_l_share_ => k_is)
    (case a_l_row => k_is)
    (case l_l_row => k_is)
    (case c_l_row_ => k_is)
    (case k_l_row_ => k_is)
    (case a_l_rows => k_is)
    (case l_l_rows => k_is)
    (case c_l_rows_ => k_is)
    (case k_l_rows_ => k_is)
    (case a_l_book => k_is)
    (case l_l_book => k_is)
    (case c_l_book_ => k_is)
    (case k_l_book_ => k_is)
    (case a_l_depth => k_is)
    (case l_l_depth => k_is)
    (case c_l_depth_ => k_is)
    (case k_l_depth_ => k_is)
    (case a_l_doubled => k_is)
    (case l_l_doubled => k_is)
    (case c_l_doubled_ => k_is)
    (case k_l_doubled_ => k_is)
    (case a_l_heads => k_is)
    (case l_l_heads => k_is)
    (case c_l_heads_ => k_is)
    (case k_l_heads_ => k_is)
    (case a_law => k_is)
    (case l_law => k_is)
    (case c_law_ => k_is)
    (case k_law_ => k_is)
    (case pg_Share => k_is)
    (case hd_Share => k_is)
    (case po_Share => k_is)
    (case sa_Share => k_is)
    (case mk_Share => k_is)
    (case kc_Share => k_is)
    (case if_Share => k_is)
    (case ha_Share => k_is)
    (case hn_Share => k_is)
    (case ht_Share => k_is)
    (case hm_Share => k_is)
    (case n_Share_top => k_is)
    (case n_Share_bottom => k_is)
    (case i_m_Share_eq => k_is)
    (case i_m_Share_str => k_is)
    (case nn_Share => k_is)
    (case nf_Share_int => k_is)
    (case nf_Share_str => k_is)
    (case nf_Share_NoneType => k_is)
    (case nf_Share_list => k_is)
    (case nf_Share_tuple => k_is)
    (case nf_Share_dict => k_is)
    (case nf_Share_bool => k_is)
    (case ko_Share => kit_is)
    (case ko_Share_int => kit_is)
    (case ko_Share_str => kit_is)
    (case ko_Share_NoneType => kit_is)
    (case ko_Share_list => kit_is)
    (case ko_Share_tuple => kit_is)
    (case ko_Share_dict => kit_is)
    (case ko_Share_bool => kit_is)
    (case ac_LETTERS => k_is)
    (case ac_LONGEST_NAME => k_is)
    (case ac_PIECE_LENGTH => k_is)
    (case ad_FORMS => k_is)
    (case al_FORMS => k_is)
    (case li_FORMS => exact ⟨⟨_, _, rfl, rfl⟩, ⟨⟨_, _, rfl, rfl⟩, ⟨⟨_, _, rfl, rfl⟩, ⟨⟨_, _, rfl, rfl⟩, ⟨⟨_, _, rfl, rfl⟩, ⟨⟨_, _, rfl, rfl⟩, ⟨⟨_, _, rfl, rfl⟩, trivial⟩⟩⟩⟩⟩⟩⟩)
    (case lo_FORMS => decide +kernel)
    (case dk_FORMS_0 => k_is)
    (case dl_FORMS_0 => k_is)
    (case dk_FORMS_1 => k_is)
    (case dl_FORMS_1 => k_is)
    (case dk_FORMS_2 => k_is)
    (case dl_FORMS_2 => k_is)
    (case dk_FORMS_3 => k_is)
    (case dl_FORMS_3 => k_is)
    (case dk_FORMS_4 => k_is)
    (case dl_FORMS_4 => k_is)
    (case dk_FORMS_5 => k_is)
    (case dl_FORMS_5 => k_is)
    (case dk_FORMS_6 => k_is)
    (case dl_FORMS_6 => k_is)
    (case zz_isinstance => k_is)
    (case zz_int => k_is)
    (case zz_bool => k_is)
    (case zz_all => k_is)
    (case zz_str => k_is)
    (case zz_len => k_is)
    (case zz_divmod => k_is)
    (case zz_abs => k_is)
    (case zz_tuple => k_is)
    (case zz_zip => k_is)
    (case zz_list => k_is)
    (case zz_enumerate => k_is)
    (case zz_max => k_is)
    (case zz_range => k_is)
