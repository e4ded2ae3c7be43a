import PyProof.Rows.All
import Wide.All
import OpenK.AllK
import Wide.FinOn
import HandS.ForMost
import HandS.Wide
import HandS.IsInst
import HandS.Defaults
import HandS.OwnEq
import HandS.Zip
import HandS.Style
import HandS.SetFor
import KE.RegKIsAll
import HandS.FStr
import HandS.NoneIn
import HandS.Exc
import HandS.TryOnly
import HandS.ExcOwn
import HandS.WordsExc
import HandS.ExcIs
import HandS.Walk
import HandS.TupSets
import HandS.SetBool
import KE.GoesMore
import HandS.DictComp
import HandS.TupMul
import HandS.Dict
import HandS.TryMany
import HandS.ExcInit
import HandS.ExcField
import KE.KExcLine
import HandS.TupAny
import KE.KExcIs
import HandS.Conv
import KE.KDictKeyed
import KE.KDictList
import HandS.DictTup
import KE.SortData
import KE.DataMinMax
import PyProof.Rows.RowBridgeK
import HandS.Conv
import HandS.TupLen
import HandS.More
import HandS.WordsDict
import PySem.Challenge.RW_farbetween_k14_whole_no_plan_is_cheaper
set_option Elab.async false
set_option linter.all false
set_option maxRecDepth 100000
/-! Part A: rules and mathematics that hang on no row. -/
namespace Fb
open PySem PySem.Spec PyProof.Rows L2
/-! ### rules -/
section
variable {X : Cx}
/-- // by any divisor but 0 below 2 ^ 9000 -/
def CDivZ (_ j : Int) : Prop := j ≠ 0 ∧ j.natAbs.log2 < 9000
theorem op_fdivZ : OpR X (binaryOp .FloorDiv) (rI CDivZ fun i j => .int (i.fdiv j)) := opI fun _ _ _ _ _ _ _ hc q => floordiv_int hc.1 q (.inl (PyProof.noPylong_of_log2 hc.2))
def ipC (C : Int → Int → Prop) (f : Int → Int → Int) : TIp := fun x y H Q => ∃ i j, x = .int i ∧ y = .int j ∧ C i j ∧ Q (.int (f i j)) H
theorem ip_mulW : PIp X .Mult (ipC CMulW fun i j => i * j) := by
  intro pins s σ H x y v u Q I r1 r2 h
  obtain ⟨i, j, e1, e2, hc, q⟩ := h
  subst e1; subst e2
  obtain ⟨t, rfl⟩ := r1
  obtain ⟨t', rfl⟩ := r2
  exact imul_int ⟨.int _, H, I.tok _, ⟨_, rfl⟩, q⟩ hc.ok
end
/-! ### the same rules with the written part named (within a comprehension) -/
section
variable {X : Cx} {K : PySem.W.Frag} {e : Expr} {ta : TE} {f : Str} {pos : Pos}
theorem pe_fldK (hK : X.K = K) (he : PE X e ta) (hb : attributeBase e f X.env (eval e X.env) = eval e X.env) : PE X (.Attribute e f pos) (tFld K ta f) := hK ▸ pe_fld he hb
theorem ix_listK (hK : X.K = K) : IxR X (rIxL K) := hK ▸ ix_list
theorem ix_tupK (hK : X.K = K) : IxR X (rIxT K) := hK ▸ ix_tup
theorem sl_listK (hK : X.K = K) : SlR X (rSlL K) := hK ▸ sl_list
theorem call_len_seqK (hK : X.K = K) : CallR X (.builtin "len") (fun xs H Q => ∃ p ys, xs = [.ref p] ∧ (SqL K H p ys ∨ SqT K H p ys) ∧ Q (.int ys.length) H) := hK ▸ call_len_seq
theorem call_isiK (hK : X.K = K) : CallR X (.builtin "isinstance") (rIsi K) := hK ▸ call_isi
end
/-- what isinstance asks of a class -/
structure TyIns (K : PySem.W.Frag) (C : Addr) : Prop where
  ha : PySem.W.findIn K (.ref C) "__class__" = some (some (.builtin "object.__class__"))
  hn : PySem.W.specialIn K (.builtin "object.__class__") "__get__" = some (some (.builtin "getset_descriptor.__get__"))
  htk : PySem.W.takesIn K (.builtin "object.__class__") = some true
  hm : PySem.W.mroIn K C (.type "object") = some true
/-! ### heaps -/
theorem same_upd {H : Hp} {p : Addr} {o : HO} (h : H p = none) : Same H (upd H p o) := fun b x e => by
  rw [upd_ne (ne_of_none e h)]
  exact e
theorem same_upd2 {G H : Hp} {p : Addr} {o : HO} (s : Same G H) (h : H p = none) : Same G (upd H p o) := s.trans (same_upd h)
/-- over a new object that has been stored into once more -/
theorem same_over {G H : Hp} {p : Addr} {o : HO} (s : Same G H) (h : G p = none) : Same G (upd H p o) := fun b x e => by
  rw [upd_ne (ne_of_none e h)]
  exact s _ _ e
theorem sqT_new {K : PySem.W.Frag} {H : Hp} {p : Addr} {xs : List V} : SqT K (upd H p (.tup xs)) p xs := .inl (.inl upd_same)
theorem sqL_new {K : PySem.W.Frag} {H : Hp} {p : Addr} {xs : List V} : SqL K (upd H p (.lst xs)) p xs := .inl (.inl upd_same)
/-- the heap without what stands at a -/
def hid (a : Addr) (H : Hp) : Hp := fun b => if b = a then none else H b
theorem hid_same {a : Addr} {H : Hp} : Same (hid a H) H := fun b o e => by
  unfold hid at e
  by_cases h : b = a
  · rw [if_pos h] at e; cases e
  · rw [if_neg h] at e; exact e
theorem hid_ne {a b : Addr} {H : Hp} (h : b ≠ a) : hid a H b = H b := if_neg h
theorem hid_self {a : Addr} {H : Hp} : hid a H a = none := if_pos rfl
theorem hid_mono {a : Addr} {H H' : Hp} (s : Same H H') : Same (hid a H) (hid a H') := fun b o e => by
  by_cases h : b = a
  · rw [h, hid_self] at e; cases e
  · rw [hid_ne h] at e ⊢; exact s _ _ e
theorem hid_upd {a : Addr} {H : Hp} {o : HO} : hid a (upd H a o) = hid a H := by
  funext b
  by_cases h : b = a
  · rw [h, hid_self, hid_self]
  · rw [hid_ne h, hid_ne h, upd_ne h]
theorem hid_updN {a p : Addr} {H : Hp} {o : HO} (h : p ≠ a) : hid a (upd H p o) = upd (hid a H) p o := by
  funext b
  by_cases hb : b = a
  · rw [hb, hid_self, upd_ne (Ne.symm h), hid_self]
  · rw [hid_ne hb]
    by_cases hp : b = p
    · rw [hp, upd_same, upd_same]
    · rw [upd_ne hp, upd_ne hp, hid_ne hb]
/-! ### shares in the heap -/
theorem tb : ¬ (("top" : Str) = "bottom") := by decide +kernel
def flds (q : Rat) : List (Str × V) := putF "bottom" (.int (q.den : Int)) (putF "top" (.int q.num) [])
theorem flds_top (q : Rat) : (flds q).lookup ("top" : Str) = some (.int q.num) := by
  unfold flds
  rw [lookup_putF, if_neg tb, lookup_putF, if_pos rfl]
theorem flds_bottom (q : Rat) : (flds q).lookup ("bottom" : Str) = some (.int (q.den : Int)) := by
  unfold flds
  rw [lookup_putF, if_pos rfl]
def IsShare (C : Addr) (H : Hp) (v : V) (q : Rat) : Prop := ∃ p dx, v = .ref p ∧ H p = some (.ins C dx (flds q))
theorem IsShare.mono {C : Addr} {H H' : Hp} {v : V} {q : Rat} (h : IsShare C H v q) (s : Same H H') : IsShare C H' v q := by
  obtain ⟨p, dx, e, h⟩ := h
  exact ⟨p, dx, e, s _ _ h⟩
/-! ### the greatest common part, and lowest terms -/
theorem gcd_step (a b : Int) : Int.gcd b (a.fmod b) = Int.gcd a b := by
  have e : a.fmod b = a - b * a.fdiv b := Int.fmod_def a b
  rw [e, Int.gcd_sub_mul_left_right, Int.gcd_comm]
theorem fmod_lt (a b : Int) (h : b ≠ 0) : (a.fmod b).natAbs < b.natAbs := by
  rw [Int.fmod_eq_emod]
  have h1 := Int.emod_nonneg a h
  have h2 := Int.emod_lt a h
  split
  · omega
  · rename_i z
    have h3 : ¬ b ∣ a := fun d => z (.inr d)
    have h4 : a % b ≠ 0 := fun e => h3 (Int.dvd_of_emod_eq_zero e)
    have h5 : ¬ 0 ≤ b := fun d => z (.inl d)
    omega
/-- the divisor that brings t over b to lowest terms, its sign the bottom's -/
def cut (t b : Int) : Int := if b < 0 then -(Int.gcd t b : Int) else (Int.gcd t b : Int)
theorem gcd_pos {t b : Int} (h : b ≠ 0) : 0 < Int.gcd t b := Int.gcd_pos_of_ne_zero_right _ h
theorem cut_ne {t b : Int} (h : b ≠ 0) : cut t b ≠ 0 := by
  have := gcd_pos (t := t) h
  unfold cut
  split <;> omega
theorem cut_abs {t b : Int} : (cut t b).natAbs = Int.gcd t b := by
  unfold cut
  split <;> omega
theorem cut_le {t b : Int} (h : b ≠ 0) : (cut t b).natAbs ≤ b.natAbs := by
  rw [cut_abs]
  exact Nat.le_of_dvd (by omega) (Int.natAbs_dvd_natAbs.mpr (Int.gcd_dvd_right t b))
theorem cut_top {t b : Int} (h : b ≠ 0) : t.fdiv (cut t b) = (Rat.divInt t b).num := by
  have d : (Int.gcd t b : Int) ∣ t := Int.gcd_dvd_left t b
  rw [Rat.num_divInt, Int.gcd_comm b t]
  unfold cut
  by_cases hb : b < 0
  · rw [if_pos hb, Int.sign_eq_neg_one_of_neg hb, Int.fdiv_eq_ediv_of_dvd (Int.neg_dvd.mpr d), Int.ediv_neg, Int.neg_one_mul, Int.neg_ediv_of_dvd d]
  · rw [if_neg hb, Int.sign_eq_one_of_pos (by omega), Int.one_mul, Int.fdiv_eq_ediv_of_dvd d]
theorem cut_bottom {t b : Int} (h : b ≠ 0) : b.fdiv (cut t b) = ((Rat.divInt t b).den : Int) := by
  have d : (Int.gcd t b : Int) ∣ b := Int.gcd_dvd_right t b
  rw [Rat.den_divInt, if_neg h, Int.gcd_comm b t]
  unfold cut
  rw [Int.natCast_ediv]
  by_cases hb : b < 0
  · rw [if_pos hb, Int.fdiv_eq_ediv_of_dvd (Int.neg_dvd.mpr d), Int.ediv_neg, ← Int.neg_ediv_of_dvd d]
    congr 1
    omega
  · rw [if_neg hb, Int.fdiv_eq_ediv_of_dvd d]
    congr 1
    omega
end Fb

/-! Part A2: shares as rational numbers, their bounds; sums over a common bottom; lists that comprehensions make. -/
namespace Fb
open PySem PySem.Spec PyProof.Rows L2
/-! ### bounds -/
structure Bd (n : Nat) (q : Rat) : Prop where
  num : q.num.natAbs < 2 ^ n
  den : q.den < 2 ^ n
theorem Bd.mono {n m : Nat} {q : Rat} (h : Bd n q) (l : n ≤ m) : Bd m q :=
  ⟨Nat.lt_of_lt_of_le h.num (Nat.pow_le_pow_right (by decide) l), Nat.lt_of_lt_of_le h.den (Nat.pow_le_pow_right (by decide) l)⟩
theorem Bd.pos {n : Nat} {q : Rat} (h : Bd n q) : 0 < n := by
  have := h.den
  have := q.den_pos
  cases n with
  | zero => simp at *; omega
  | succ n => omega
theorem divInt_num_le {t b : Int} (h : b ≠ 0) : (Rat.divInt t b).num.natAbs ≤ t.natAbs := by
  have d : (cut t b) ∣ t := by
    have d := Int.gcd_dvd_left t b
    unfold cut
    split
    · exact Int.neg_dvd.mpr d
    · exact d
  have e : (Rat.divInt t b).num * cut t b = t := by
    rw [← cut_top h, Int.fdiv_eq_ediv_of_dvd d, Int.ediv_mul_cancel d]
  have e2 := congrArg Int.natAbs e
  rw [Int.natAbs_mul] at e2
  have := cut_ne (t := t) h
  rw [← e2]
  exact Nat.le_mul_of_pos_right _ (by omega)
theorem divInt_den_le {t b : Int} (h : b ≠ 0) : (Rat.divInt t b).den ≤ b.natAbs := by
  rw [Rat.den_divInt, if_neg h]
  exact Nat.div_le_self _ _
theorem Bd.divInt {t b : Int} {n : Nat} (h : b ≠ 0) (ht : t.natAbs < 2 ^ n) (hb : b.natAbs < 2 ^ n) : Bd n (Rat.divInt t b) :=
  ⟨Nat.lt_of_le_of_lt (divInt_num_le h) ht, Nat.lt_of_le_of_lt (divInt_den_le h) hb⟩
theorem den_ne (q : Rat) : (q.den : Int) ≠ 0 := by
  have := q.den_pos
  omega
theorem den_abs {n : Nat} {q : Rat} (h : Bd n q) : (q.den : Int).natAbs < 2 ^ n := by
  have := h.den
  omega
theorem dens_ne (x y : Rat) : (x.den : Int) * (y.den : Int) ≠ 0 := Int.mul_ne_zero (den_ne x) (den_ne y)
theorem rat_add (x y : Rat) : Rat.divInt (x.num * (y.den : Int) + y.num * (x.den : Int)) ((x.den : Int) * (y.den : Int)) = x + y := by
  rw [Rat.add_def', ← Int.natCast_mul, Rat.divInt_ofNat]
theorem rat_sub (x y : Rat) : Rat.divInt (x.num * (y.den : Int) - y.num * (x.den : Int)) ((x.den : Int) * (y.den : Int)) = x - y := by
  rw [Rat.sub_def', ← Int.natCast_mul, Rat.divInt_ofNat]
theorem rat_mul (x y : Rat) : Rat.divInt (x.num * y.num) ((x.den : Int) * (y.den : Int)) = x * y := by
  rw [Rat.mul_def', ← Int.natCast_mul, Rat.divInt_ofNat]
theorem rat_div (x y : Rat) : Rat.divInt (x.num * (y.den : Int)) ((x.den : Int) * y.num) = x / y := by
  rw [Rat.div_def, Rat.inv_def, ← Rat.divInt_mul_divInt, Rat.num_divInt_den]
theorem sum_lt {a b : Int} {n : Nat} (ha : a.natAbs < 2 ^ n) (hb : b.natAbs < 2 ^ n) : (a + b).natAbs < 2 ^ (n + 1) := by
  rw [Nat.pow_succ]
  omega
theorem sub_lt {a b : Int} {n : Nat} (ha : a.natAbs < 2 ^ n) (hb : b.natAbs < 2 ^ n) : (a - b).natAbs < 2 ^ (n + 1) := by
  rw [Nat.pow_succ]
  omega
theorem up {a : Int} {n m : Nat} (ha : a.natAbs < 2 ^ n) (h : n ≤ m) : a.natAbs < 2 ^ m := Nat.lt_of_lt_of_le ha (Nat.pow_le_pow_right (by decide) h)
theorem Bd.add {n m : Nat} {x y : Rat} (hx : Bd n x) (hy : Bd m y) : Bd (n + m + 1) (x + y) := by
  rw [← rat_add]
  refine .divInt (dens_ne x y) (sum_lt (wide_lt hx.num (den_abs hy)) ?_) (up (wide_lt (den_abs hx) (den_abs hy)) (by omega))
  have := wide_lt hy.num (den_abs hx)
  rw [Nat.add_comm] at this
  exact this
theorem Bd.sub {n m : Nat} {x y : Rat} (hx : Bd n x) (hy : Bd m y) : Bd (n + m + 1) (x - y) := by
  rw [← rat_sub]
  refine .divInt (dens_ne x y) (sub_lt (wide_lt hx.num (den_abs hy)) ?_) (up (wide_lt (den_abs hx) (den_abs hy)) (by omega))
  have := wide_lt hy.num (den_abs hx)
  rw [Nat.add_comm] at this
  exact this
theorem Bd.mul {n m : Nat} {x y : Rat} (hx : Bd n x) (hy : Bd m y) : Bd (n + m) (x * y) := by
  rw [← rat_mul]
  exact .divInt (dens_ne x y) (wide_lt hx.num hy.num) (wide_lt (den_abs hx) (den_abs hy))
theorem Bd.div {n m : Nat} {x y : Rat} (hx : Bd n x) (hy : Bd m y) (h0 : y ≠ 0) : Bd (n + m) (x / y) := by
  rw [← rat_div]
  exact .divInt (Int.mul_ne_zero (den_ne x) (fun z => h0 (Rat.num_eq_zero.mp z))) (wide_lt hx.num (den_abs hy)) (wide_lt (den_abs hx) hy.num)
theorem log_of {a : Int} {n : Nat} (h0 : 0 < n) (h : a.natAbs < 2 ^ n) (h9 : n ≤ 9000) : a.natAbs.log2 < 9000 := Nat.lt_of_lt_of_le (PySem.Flt.log2_lt_of h0 h) h9
/-! ### sums over a common bottom -/
def lcmOn : Nat → List Rat → Nat
  | L, [] => L
  | L, q :: r => lcmOn (L * (q.den / Nat.gcd L q.den)) r
theorem lcmOn_pos : ∀ (qs : List Rat) (L : Nat), 0 < L → 0 < lcmOn L qs
  | [], _, h => h
  | q :: r, L, h => by
    refine lcmOn_pos r _ (Nat.mul_pos h (Nat.div_pos (Nat.le_of_dvd q.den_pos (Nat.gcd_dvd_right _ _)) (Nat.gcd_pos_of_pos_left _ h)))
theorem lcmOn_dvd : ∀ (qs : List Rat) (L : Nat), L ∣ lcmOn L qs
  | [], L => Nat.dvd_refl L
  | _ :: r, L => Nat.dvd_trans (Nat.dvd_mul_right L _) (lcmOn_dvd r _)
theorem den_dvd_step (L d : Nat) : d ∣ L * (d / Nat.gcd L d) := by
  rw [← Nat.mul_div_assoc _ (Nat.gcd_dvd_right L d)]
  exact Nat.dvd_lcm_right L d
theorem den_dvd_lcm : ∀ (qs : List Rat) (L : Nat) (q : Rat), q ∈ qs → q.den ∣ lcmOn L qs
  | x :: r, L, q, h => by
    rcases List.mem_cons.mp h with e | h
    · subst e
      exact Nat.dvd_trans (den_dvd_step L q.den) (lcmOn_dvd r _)
    · exact den_dvd_lcm r _ q h
theorem lcmOn_lt : ∀ (qs : List Rat) (L n a : Nat), (∀ q ∈ qs, q.den < 2 ^ n) → L < 2 ^ a → lcmOn L qs < 2 ^ (a + n * qs.length)
  | [], L, n, a, _, h => by simpa [lcmOn] using h
  | q :: r, L, n, a, hq, h => by
    have h1 : L * (q.den / Nat.gcd L q.den) < 2 ^ (a + n) := by
      rw [Nat.pow_add]
      exact Nat.lt_of_le_of_lt (Nat.mul_le_mul_left _ (Nat.div_le_self _ _)) (Nat.mul_lt_mul'' h (hq q List.mem_cons_self))
    have := lcmOn_lt r _ n (a + n) (fun x hx => hq x (List.mem_cons_of_mem _ hx)) h1
    rw [List.length_cons, Nat.mul_succ]
    rw [show a + (n * r.length + n) = a + n + n * r.length by omega]
    exact this
def rsum : List Rat → Rat
  | [] => 0
  | q :: r => q + rsum r
theorem rsum_append : ∀ (a b : List Rat), rsum (a ++ b) = rsum a + rsum b
  | [], b => (Rat.zero_add _).symm
  | q :: r, b => by
    show q + rsum (r ++ b) = q + rsum r + rsum b
    rw [rsum_append r b, Rat.add_assoc]
theorem divInt_add_same (a b d : Int) : Rat.divInt (a + b) d = Rat.divInt a d + Rat.divInt b d := by
  by_cases h : d = 0
  · subst h
    simp [Rat.zero_add]
  · rw [Rat.divInt_add_divInt _ _ h h, ← Int.add_mul, Rat.divInt_mul_right h]
def topsOf (L : Nat) (qs : List Rat) : List Int := qs.map fun q => q.num * ((L / q.den : Nat) : Int)
theorem tops_one {L : Nat} {q : Rat} (h0 : 0 < L) (hd : q.den ∣ L) : Rat.divInt (q.num * ((L / q.den : Nat) : Int)) (L : Int) = q := by
  obtain ⟨k, rfl⟩ := hd
  have hk : k ≠ 0 := fun z => by
    subst z
    simp at h0
  rw [Nat.mul_div_cancel_left _ q.den_pos, Int.natCast_mul, Rat.divInt_mul_right (by omega), Rat.num_divInt_den]
theorem tops_sum {L : Nat} (h0 : 0 < L) : ∀ (qs : List Rat), (∀ q ∈ qs, q.den ∣ L) → Rat.divInt (topsOf L qs).sum (L : Int) = rsum qs
  | [], _ => by simp [topsOf, rsum]
  | q :: r, h => by
    show Rat.divInt (q.num * ((L / q.den : Nat) : Int) + (topsOf L r).sum) (L : Int) = q + rsum r
    rw [divInt_add_same, tops_one h0 (h q List.mem_cons_self), tops_sum h0 r fun x hx => h x (List.mem_cons_of_mem _ hx)]
/-- n bounds each share, N their number -/
structure Few (n N : Nat) (qs : List Rat) : Prop where
  bd : ∀ q ∈ qs, Bd n q
  len : qs.length ≤ N
  small : n * N ≤ 8000
  most : N ≤ 999
  pos : 0 < n
/-! ### values that stand for a list of things -/
def AllAre {α : Type} (R : V → α → Prop) (vs : List V) (xs : List α) : Prop := vs.length = xs.length ∧ ∀ (i : Nat) (v : V) (x : α), vs[i]? = some v → xs[i]? = some x → R v x
theorem AllAre.nil {α : Type} {R : V → α → Prop} : AllAre R [] [] := ⟨rfl, fun i v x h => by simp at h⟩
theorem AllAre.at {α : Type} {R : V → α → Prop} {vs : List V} {xs : List α} {i : Nat} {v : V} (h : AllAre R vs xs) (e : vs[i]? = some v) : ∃ x, xs[i]? = some x ∧ R v x := by
  have hi : i < xs.length := by
    have := (List.getElem?_eq_some_iff.mp e).1
    rw [← h.1]
    exact this
  exact ⟨xs[i], List.getElem?_eq_getElem hi, h.2 i v _ e (List.getElem?_eq_getElem hi)⟩
theorem AllAre.imp {α : Type} {R R' : V → α → Prop} {vs : List V} {xs : List α} (h : AllAre R vs xs) (f : ∀ v x, R v x → R' v x) : AllAre R' vs xs := ⟨h.1, fun i v x a b => f _ _ (h.2 i v x a b)⟩
theorem AllAre.cons {α : Type} {R : V → α → Prop} {v : V} {x : α} {vs : List V} {xs : List α} (r : R v x) (h : AllAre R vs xs) : AllAre R (v :: vs) (x :: xs) := by
  refine ⟨by simp [h.1], fun i a b h1 h2 => ?_⟩
  cases i with
  | zero =>
    simp at h1 h2
    subst h1; subst h2
    exact r
  | succ i =>
    simp at h1 h2
    exact h.2 i a b h1 h2
theorem AllAre.append {α : Type} {R : V → α → Prop} : ∀ {vs us : List V} {xs ys : List α}, AllAre R vs xs → AllAre R us ys → AllAre R (vs ++ us) (xs ++ ys)
  | [], us, [], ys, _, h => h
  | v :: vs, us, x :: xs, ys, h, h' => by
    have t : AllAre R vs xs := ⟨by simpa using h.1, fun i a b h1 h2 => h.2 (i + 1) a b (by simpa using h1) (by simpa using h2)⟩
    exact .cons (h.2 0 v x rfl rfl) (t.append h')
  | [], _, _ :: _, _, h, _ => by simp [AllAre] at h
  | _ :: _, _, [], _, h, _ => by simp [AllAre] at h
theorem AllAre.snoc {α : Type} {R : V → α → Prop} {v : V} {x : α} {vs : List V} {xs : List α} (h : AllAre R vs xs) (r : R v x) : AllAre R (vs ++ [v]) (xs ++ [x]) := h.append (.cons r .nil)
theorem AllAre.take {α : Type} {R : V → α → Prop} {vs : List V} {xs : List α} (n : Nat) (h : AllAre R vs xs) : AllAre R (vs.take n) (xs.take n) := by
  refine ⟨by simp [h.1], fun i a b h1 h2 => ?_⟩
  rw [List.getElem?_take] at h1 h2
  split at h1
  · rw [if_pos (by assumption)] at h2
    exact h.2 i a b h1 h2
  · cases h1
theorem AllAre.drop {α : Type} {R : V → α → Prop} {vs : List V} {xs : List α} (n : Nat) (h : AllAre R vs xs) : AllAre R (vs.drop n) (xs.drop n) := by
  refine ⟨by simp [h.1], fun i a b h1 h2 => ?_⟩
  rw [List.getElem?_drop] at h1 h2
  exact h.2 _ a b h1 h2
theorem AllAre.reverse {α : Type} {R : V → α → Prop} {vs : List V} {xs : List α} (h : AllAre R vs xs) : AllAre R vs.reverse xs.reverse := by
  refine ⟨by simp [h.1], fun i a b h1 h2 => ?_⟩
  have l1 := (List.getElem?_eq_some_iff.mp h1).1
  have l2 := (List.getElem?_eq_some_iff.mp h2).1
  rw [List.length_reverse] at l1 l2
  rw [List.getElem?_reverse l1] at h1
  rw [List.getElem?_reverse l2, ← h.1] at h2
  exact h.2 _ a b h1 h2
/-- a list of shares -/
def IsShares (C : Addr) (H : Hp) (v : V) (qs : List Rat) : Prop := ∃ p vs, v = .ref p ∧ H p = some (.lst vs) ∧ AllAre (IsShare C H) vs qs
theorem IsShares.mono {C : Addr} {H H' : Hp} {v : V} {qs : List Rat} (h : IsShares C H v qs) (s : Same H H') : IsShares C H' v qs := by
  obtain ⟨p, vs, e, h, a⟩ := h
  exact ⟨p, vs, e, s _ _ h, a.imp fun _ _ r => r.mono s⟩
/-! ### comprehensions that only make -/
/-- [e for x in xs]: what is told of the i-th item is told of it to the end -/
theorem lc_all {K : PySem.W.Frag} {a : Addr} {xs : List V} {g : TG} {te : TE} {vs : List Nat} {σ : L2.St} {H1 : Hp} {D : Addr} {Qd : Hp → Prop} (R : Nat → V → Hp → Prop) (mono : ∀ i v H H', Same H H' → R i v H → R i v H')
    (hD : H1 D = none) (hS : SqL K H1 a xs) (hz : xs.length ≤ 1000)
    (hs : ∀ i x H (k : V → Hp → Prop), xs[i]? = some x → Same H1 (hid D H) → (∃ ys, H D = some (.lst ys)) → (∀ y H4, Same H H4 → R i y (hid D H4) → k y H4) → g x (wipe σ vs) H fun σ2 H2 => wipe σ2 vs = wipe σ vs ∧ te σ2 H2 k)
    (hd : ∀ H ys, Same H1 (hid D H) → H D = some (.lst ys) → ys.length = xs.length → (∀ i y, ys[i]? = some y → R i y (hid D H)) → Qd H) :
    ∃ W : Nat → Nat → Hp → Prop, (∃ m, W 0 m (upd H1 D (.lst []))) ∧ ∀ i m H, W i m H →
      ((Itl K a).stop i H ∧ Qd H) ∨ ((Itl K a).go i H ∧ ∃ Nx : Hp → Prop, (∀ H', Nx H' → ∃ m', m' < m ∧ W (i + 1) m' H') ∧ ∀ x H', (Itl K a).yld i H x H' → g x (wipe σ vs) H' fun σ2 H2 => wipe σ2 vs = wipe σ vs ∧ tYes σ2 H2 fun b H3 =>
        if b = true then te σ2 H3 fun y H4 => ∃ acc, H4 D = some (.lst acc) ∧ acc.length < sizeLine ∧ Nx (upd H4 D (.lst (acc ++ [y]))) else Nx H3) := by
  refine lc_list (xs := xs) (fun i H => ∃ ys, Same H1 (hid D H) ∧ H D = some (.lst ys) ∧ ys.length = i ∧ ∀ j y, ys[j]? = some y → R j y (hid D H)) ⟨[], ?_, upd_same, rfl, fun j y h => by simp at h⟩ (fun i H _ h => ?_) (fun i x H hx h => ?_) (fun H h => ?_)
  · intro b o e
    rw [hid_ne (ne_of_none e hD), upd_ne (ne_of_none e hD)]
    exact e
  · obtain ⟨ys, s, _⟩ := h
    exact (s.trans hid_same).seq hS
  · obtain ⟨ys, s, e, l, r⟩ := h
    have hi : i < xs.length := (List.getElem?_eq_some_iff.mp hx).1
    refine hs i x H (fun y H4 => ∃ acc, H4 D = some (.lst acc) ∧ acc.length < sizeLine ∧ ∃ ys, Same H1 (hid D (upd H4 D (.lst (acc ++ [y])))) ∧ (upd H4 D (.lst (acc ++ [y]))) D = some (.lst ys) ∧ ys.length = i + 1 ∧ ∀ j y', ys[j]? = some y' → R j y' (hid D (upd H4 D (.lst (acc ++ [y]))))) hx s ⟨_, e⟩ fun y H4 s4 ry => ?_
    refine ⟨ys, s4 _ _ e, small1000 (by omega), ys ++ [y], ?_, upd_same, by simp [l], fun j y' h => ?_⟩
    · rw [hid_upd]
      exact s.trans (hid_mono s4)
    · rw [hid_upd]
      by_cases hj : j < ys.length
      · rw [List.getElem?_append_left hj] at h
        exact mono _ _ _ _ (hid_mono s4) (r j y' h)
      · rw [List.getElem?_append_right (by omega)] at h
        have hj2 : j - ys.length = 0 := by
          have := (List.getElem?_eq_some_iff.mp h).1
          simp at this
          omega
        rw [hj2] at h
        simp at h
        subst h
        have : j = i := by omega
        rw [this]
        exact ry
  · obtain ⟨ys, s, e, l, r⟩ := h
    exact hd H ys s e l r
end Fb

/-! Part A3: the well of draws, pairs, equality of pairs. -/
namespace Fb
open PySem PySem.Spec PyProof.Rows L2
/-- the well at a, good for n draws more -/
def WellAt (H : Hp) (a : Addr) (n : Nat) : Prop := ∃ w0 w1 w2 : Int, H a = some (.lst [.int w0, .int w1, .int w2]) ∧ 0 ≤ w1 ∧ w1 < 2147483647 ∧ 0 ≤ w2 ∧ w2 + (n : Int) ≤ 1099511627776
theorem WellAt.mono {H : Hp} {a : Addr} {n m : Nat} (h : WellAt H a n) (l : m ≤ n) : WellAt H a m := by
  obtain ⟨w0, w1, w2, e, a1, a2, a3, a4⟩ := h
  exact ⟨w0, w1, w2, e, a1, a2, a3, by omega⟩
theorem WellAt.same {H H' : Hp} {a : Addr} {n : Nat} (h : WellAt H a n) (s : Same H H') : WellAt H' a n := by
  obtain ⟨w0, w1, w2, e, r⟩ := h
  exact ⟨w0, w1, w2, s _ _ e, r⟩
theorem WellAt.ne {H : Hp} {a p : Addr} {n : Nat} (h : WellAt H a n) (e : H p = none) : p ≠ a := by
  obtain ⟨w0, w1, w2, ea, _⟩ := h
  intro z
  rw [z, ea] at e
  cases e
/-- what the seven primes are -/
theorem primes7 {k : Int} (h0 : 0 ≤ k) (h7 : k < 7) : ∃ p : Int, atI [V.int 2147483647, V.int 2147483629, V.int 2147483587, V.int 2147483579, V.int 2147483563, V.int 2147483549, V.int 2147483543] k = some (.int p) ∧ 0 < p ∧ p < 2147483648 := by
  have : k = 0 ∨ k = 1 ∨ k = 2 ∨ k = 3 ∨ k = 4 ∨ k = 5 ∨ k = 6 := by omega
  rcases this with e | e | e | e | e | e | e <;> subst e <;> exact ⟨_, rfl, by decide, by decide⟩
theorem atI_get {α : Type} {xs : List α} {i : Int} (h0 : 0 ≤ i) (h : i < xs.length) : ∃ x, atI xs i = some x ∧ xs[i.toNat]? = some x := by
  have hl : i.toNat < xs.length := by omega
  have g := List.getElem?_eq_getElem hl
  have e : ((i.toNat : Nat) : Int) = i := by omega
  have q := atI_nat g
  rw [e] at q
  exact ⟨_, q, g⟩
/-- a share's two numbers, as a tuple -/
def IsTup2 (H : Hp) (v : V) (t b : Int) : Prop := ∃ p, v = .ref p ∧ H p = some (.tup [.int t, .int b])
theorem IsTup2.mono {H H' : Hp} {v : V} {t b : Int} (h : IsTup2 H v t b) (s : Same H H') : IsTup2 H' v t b := by
  obtain ⟨p, e, h⟩ := h
  exact ⟨p, e, s _ _ h⟩
theorem IsTup2.dp {K : PySem.W.Frag} {H : Hp} {v : V} {t b : Int} (h : IsTup2 H v t b) : Dp K H v (.tuple [.int t, .int b]) := by
  obtain ⟨p, rfl, h⟩ := h
  exact .tup (.inl (.inl h)) (.cons (.int _) (.cons (.int _) .nil))
theorem eqv_tup2 (a b c d : Int) : PyData.eqv (.tuple [.int a, .int b]) (.tuple [.int c, .int d]) = (a == c && b == d) := by
  simp [PyData.eqv, PyData.eqvAll]
theorem shaped2 (a b : Int) : SeqAt.shaped (.tuple [.int a, .int b]) = true := rfl
/-- objects of other kinds than the well's are not hidden with it -/
theorem hid_keep {H : Hp} {a p : Addr} {n : Nat} {o : HO} (w : WellAt H a n) (h : H p = some o) (ho : ∀ xs, o ≠ .lst xs) : hid a H p = some o := by
  obtain ⟨w0, w1, w2, e, _⟩ := w
  rw [hid_ne]
  · exact h
  · intro z
    rw [z, e] at h
    cases h
    exact ho _ rfl
theorem IsTup2.hid {H : Hp} {a : Addr} {n : Nat} {v : V} {t b : Int} (w : WellAt H a n) (h : IsTup2 H v t b) : IsTup2 (hid a H) v t b := by
  obtain ⟨p, e, h⟩ := h
  exact ⟨p, e, hid_keep w h (fun _ => nofun)⟩
theorem IsShare.hid {C : Addr} {H : Hp} {a : Addr} {n : Nat} {v : V} {q : Rat} (w : WellAt H a n) (h : IsShare C H v q) : IsShare C (hid a H) v q := by
  obtain ⟨p, dx, e, h⟩ := h
  exact ⟨p, dx, e, hid_keep w h (fun _ => nofun)⟩
theorem pow_small {i : Int} (h0 : 0 ≤ i) (h : i < 18446744073709551616) : CPow i 5 := ⟨by decide, by decide, by omega⟩
theorem log_pos {m : Int} (h0 : 0 < m) {n : Nat} (hn : 0 < n) (h9 : n ≤ 9000) (h : m < 2 ^ n) : CDivW 0 m := by
  refine ⟨h0, log_of hn ?_ h9⟩
  have : ((2 ^ n : Nat) : Int) = 2 ^ n := by simp
  omega
end Fb
namespace Fb
open PySem PySem.Spec PyProof.Rows L2
/-- a new object beside the well -/
theorem well_new {H : Hp} {a p : Addr} {n : Nat} {o : HO} (w : WellAt H a n) (np : H p = none) : WellAt (upd H p o) a n ∧ Same (hid a H) (hid a (upd H p o)) :=
  ⟨w.same (same_upd np), hid_mono (same_upd np)⟩
theorem sqL_hid {K : PySem.W.Frag} {H : Hp} {a p : Addr} {n : Nat} {xs : List V} (w : WellAt H a n) (np : H p = none) : SqL K (hid a (upd H p (.lst xs))) p xs := by
  rw [hid_updN (w.ne np)]
  exact sqL_new
theorem tup_hid {H : Hp} {a p : Addr} {n : Nat} {t b : Int} (w : WellAt H a n) (np : H p = none) : IsTup2 (hid a (upd H p (.tup [.int t, .int b]))) (.ref p) t b := by
  refine ⟨p, rfl, ?_⟩
  rw [hid_updN (w.ne np), upd_same]
theorem mem5 {α : Type} {a b c d e x : α} {i : Nat} (h : [a, b, c, d, e][i]? = some x) : x = a ∨ x = b ∨ x = c ∨ x = d ∨ x = e := by
  have := List.mem_of_getElem? h
  simpa using this
theorem mem4 {α : Type} {a b c d x : α} {i : Nat} (h : [a, b, c, d][i]? = some x) : x = a ∨ x = b ∨ x = c ∨ x = d := by
  have := List.mem_of_getElem? h
  simpa using this
theorem mem3 {α : Type} {a b c x : α} {i : Nat} (h : [a, b, c][i]? = some x) : x = a ∨ x = b ∨ x = c := by
  have := List.mem_of_getElem? h
  simpa using this
theorem divInt_self (q : Rat) : Rat.divInt q.num (q.den : Int) = q := Rat.num_divInt_den q
end Fb

/-! Part A4: comprehensions beside the well; the law's loop over its numbers. -/
namespace Fb
open PySem PySem.Spec PyProof.Rows L2
theorem hid2_upd {a D : Addr} {H : Hp} {o : HO} (h : D ≠ a) : hid D (hid a (upd H D o)) = hid D (hid a H) := by
  rw [hid_updN h, hid_upd]
theorem hid2_ne {a D : Addr} {H : Hp} (h : D ≠ a) : hid a H D = H D := hid_ne h
theorem WellAt.upd {H : Hp} {a D : Addr} {n : Nat} {o : HO} (w : WellAt H a n) (h : D ≠ a) : WellAt (L2.upd H D o) a n := by
  obtain ⟨w0, w1, w2, e, r⟩ := w
  exact ⟨w0, w1, w2, by rw [upd_ne h.symm]; exact e, r⟩
/-- [e for x in range(..)], each turn at most c draws: what is told of each item stays -/
theorem lc_wellR {lo : Int} {n : Nat} {g : TG} {te : TE} {vs : List Nat} {σ : L2.St} {H1 : Hp} {D a : Addr} {Qd : Hp → Prop} (R : V → Hp → Prop) (mono : ∀ v H H', Same H H' → R v H → R v H') (c f : Nat)
    (hD : H1 D = none) (hw : WellAt H1 a (f + c * n)) (hn : n ≤ 1000)
    (hs : ∀ i H m (k : V → Hp → Prop), i < n → WellAt H a (m + c) → Same (hid a H1) (hid D (hid a H)) → (∃ ys, H D = some (.lst ys)) → (∀ y H4, Same (hid a H) (hid a H4) → WellAt H4 a m → R y (hid D (hid a H4)) → k y H4) →
      g (.int (lo + i)) (wipe σ vs) H fun σ2 H2 => wipe σ2 vs = wipe σ vs ∧ te σ2 H2 k)
    (hd : ∀ H ys, Same (hid a H1) (hid D (hid a H)) → WellAt H a f → H D = some (.lst ys) → ys.length = n → (∀ y ∈ ys, R y (hid D (hid a H))) → Qd H) :
    ∃ W : Nat → Nat → Hp → Prop, (∃ m, W 0 m (upd H1 D (.lst []))) ∧ ∀ i m H, W i m H →
      ((Itr lo n).stop i H ∧ Qd H) ∨ ((Itr lo n).go i H ∧ ∃ Nx : Hp → Prop, (∀ H', Nx H' → ∃ m', m' < m ∧ W (i + 1) m' H') ∧ ∀ x H', (Itr lo n).yld i H x H' → g x (wipe σ vs) H' fun σ2 H2 => wipe σ2 vs = wipe σ vs ∧ tYes σ2 H2 fun b H3 =>
        if b = true then te σ2 H3 fun y H4 => ∃ acc, H4 D = some (.lst acc) ∧ acc.length < sizeLine ∧ Nx (upd H4 D (.lst (acc ++ [y]))) else Nx H3) := by
  have nD : D ≠ a := hw.ne hD
  refine lc_range (fun i H => ∃ ys, Same (hid a H1) (hid D (hid a H)) ∧ WellAt H a (f + c * (n - i)) ∧ H D = some (.lst ys) ∧ ys.length = i ∧ ∀ y ∈ ys, R y (hid D (hid a H))) ⟨[], ?_, hw.upd nD, upd_same, rfl, fun y h => by simp at h⟩ (fun i H hi h => ?_) (fun H h => ?_)
  · rw [hid2_upd nD]
    intro b o e
    have hb : b ≠ D := fun z => by
      rw [z, hid_ne nD, hD] at e
      cases e
    rw [hid_ne hb]
    exact e
  · obtain ⟨ys, s, w, e, l, r⟩ := h
    have ec : f + c * (n - i) = (f + c * (n - (i + 1))) + c := by
      have : n - i = (n - (i + 1)) + 1 := by omega
      rw [this, Nat.mul_succ]
      omega
    rw [ec] at w
    refine hs i H _ (fun y H4 => ∃ acc, H4 D = some (.lst acc) ∧ acc.length < sizeLine ∧ ∃ ys, Same (hid a H1) (hid D (hid a (upd H4 D (.lst (acc ++ [y]))))) ∧ WellAt (upd H4 D (.lst (acc ++ [y]))) a (f + c * (n - (i + 1))) ∧ (upd H4 D (.lst (acc ++ [y]))) D = some (.lst ys) ∧ ys.length = i + 1 ∧ ∀ y' ∈ ys, R y' (hid D (hid a (upd H4 D (.lst (acc ++ [y])))))) hi w s ⟨_, e⟩ fun y H4 s4 w4 ry => ?_
    have e4 : H4 D = some (.lst ys) := by
      have := s4 D (.lst ys) (by rw [hid_ne nD]; exact e)
      rw [hid_ne nD] at this
      exact this
    refine ⟨ys, e4, small1000 (by omega), ys ++ [y], ?_, w4.upd nD, upd_same, by simp [l], fun y' h => ?_⟩
    · rw [hid2_upd nD]
      exact s.trans (hid_mono s4)
    · rw [hid2_upd nD]
      rcases List.mem_append.mp h with h | h
      · exact mono _ _ _ (hid_mono s4) (r y' h)
      · have : y' = y := by simpa using h
        rw [this]
        exact ry
  · obtain ⟨ys, s, w, e, l, r⟩ := h
    rw [Nat.sub_self, Nat.mul_zero] at w
    exact hd H ys s w e l r
/-- what is no list is not hidden with a list -/
theorem hid_no {H : Hp} {D p : Addr} {o : HO} (e : ∃ ys, H D = some (.lst ys)) (h : H p = some o) (ho : ∀ xs, o ≠ .lst xs) : hid D H p = some o := by
  obtain ⟨ys, e⟩ := e
  rw [hid_ne]
  · exact h
  · intro z
    rw [z, e] at h
    cases h
    exact ho _ rfl
theorem IsTup2.hidL {H : Hp} {D : Addr} {v : V} {t b : Int} (e : ∃ ys, H D = some (.lst ys)) (h : IsTup2 H v t b) : IsTup2 (Fb.hid D H) v t b := by
  obtain ⟨p, rfl, h⟩ := h
  exact ⟨p, rfl, hid_no e h (fun _ => nofun)⟩
theorem IsShare.hidL {C : Addr} {H : Hp} {D : Addr} {v : V} {q : Rat} (e : ∃ ys, H D = some (.lst ys)) (h : IsShare C H v q) : IsShare C (Fb.hid D H) v q := by
  obtain ⟨p, dx, rfl, h⟩ := h
  exact ⟨p, dx, rfl, hid_no e h (fun _ => nofun)⟩
theorem allAre_of {α : Type} {R : V → α → Prop} : ∀ {ys : List V}, (∀ y ∈ ys, ∃ x, R y x) → ∃ xs, AllAre R ys xs
  | [], _ => ⟨[], .nil⟩
  | y :: ys, h => by
    obtain ⟨x, hx⟩ := h y List.mem_cons_self
    obtain ⟨xs, hxs⟩ := allAre_of (ys := ys) fun z hz => h z (List.mem_cons_of_mem _ hz)
    exact ⟨x :: xs, .cons hx hxs⟩
theorem AllAre.of_ix {α : Type} {R : V → α → Prop} {ys : List V} {xs : List α} (l : ys.length = xs.length) (h : ∀ (i : Nat) y, ys[i]? = some y → ∃ x, xs[i]? = some x ∧ R y x) : AllAre R ys xs := ⟨l, fun i v x a b => by
  obtain ⟨x', e, r⟩ := h i v a
  rw [e] at b
  cases b
  exact r⟩
theorem AllAre.mem {α : Type} {R : V → α → Prop} {ys : List V} {xs : List α} (h : AllAre R ys xs) {x : α} (hx : x ∈ xs) : ∃ y, R y x := by
  obtain ⟨i, hi, e⟩ := List.mem_iff_getElem.mp hx
  have hl : i < ys.length := by rw [h.1]; exact hi
  exact ⟨ys[i], h.2 i _ x (List.getElem?_eq_getElem hl) (by rw [List.getElem?_eq_getElem hi, e])⟩
theorem rsum_take {qs : List Rat} {i : Nat} {z : Rat} (h : qs[i]? = some z) : rsum (qs.take (i + 1)) = rsum (qs.take i) + z := by
  rw [List.take_add_one, h, rsum_append]
  show rsum (qs.take i) + (z + 0) = _
  rw [Rat.add_zero]
theorem rsum_bd {n : Nat} : ∀ {qs : List Rat}, (∀ q ∈ qs, Bd n q) → Bd ((n + 1) * qs.length + 1) (rsum qs)
  | [], _ => by
    rw [List.length_nil, Nat.mul_zero]
    exact ⟨by decide, by decide⟩
  | q :: r, h => by
    have h1 := (h q List.mem_cons_self).add (rsum_bd (qs := r) fun x hx => h x (List.mem_cons_of_mem _ hx))
    refine h1.mono ?_
    rw [List.length_cons, Nat.mul_succ]
    omega
/-- the law's numbers are whole numbers -/
theorem cells_int {ns : List Int} {lo hi : Option Int} {more : List Int} {i : Nat} {x : V} (h : (cutV (ns.map V.int) lo hi ++ more.map V.int)[i]? = some x) : ∃ z, x = .int z := by
  have m := List.mem_of_getElem? h
  rcases List.mem_append.mp m with m | m
  · have m2 : x ∈ ns.map V.int := by
      unfold cutV at m
      exact List.mem_of_mem_drop (List.mem_of_mem_take m)
    obtain ⟨z, _, e⟩ := List.mem_map.mp m2
    exact ⟨z, e.symm⟩
  · obtain ⟨z, _, e⟩ := List.mem_map.mp m
    exact ⟨z, e.symm⟩
/-- over a heap that has the well's address free, the hidden heap's facts are facts -/
theorem same_hid {H0 H : Hp} {a : Addr} (s : Same H0 (hid a H)) : Same H0 H := s.trans hid_same
/-! ### orders of fractions -/
theorem divInt_neg_iff {n m : Int} (hm : m ≠ 0) : Rat.divInt n m < 0 ↔ n * m < 0 := by
  have key : ∀ {n m : Int}, 0 < m → (Rat.divInt n m < 0 ↔ n * m < 0) := fun {n m} hm => by
    rw [← Rat.not_le, Rat.divInt_nonneg_iff_of_pos_right hm]
    constructor
    · intro h
      exact Int.mul_neg_of_neg_of_pos (by omega) hm
    · intro h z
      have := Int.mul_nonneg z (Int.le_of_lt hm)
      omega
  rcases Int.lt_or_gt_of_ne hm with h | h
  · have e : Rat.divInt n m = Rat.divInt (-n) (-m) := (Rat.neg_divInt_neg n m).symm
    rw [e, key (by omega), Int.neg_mul_neg]
  · exact key h
theorem lt_cross {a b c d : Int} (hb : b ≠ 0) (hd : d ≠ 0) : Rat.divInt a b < Rat.divInt c d ↔ (a * d - c * b) * b * d < 0 := by
  have e : Rat.divInt a b - Rat.divInt c d = Rat.divInt (a * d - c * b) (b * d) := Rat.divInt_sub_divInt a c hb hd
  rw [Int.mul_assoc, ← divInt_neg_iff (Int.mul_ne_zero hb hd), ← e, ← Rat.not_le, Rat.le_iff_sub_nonneg, Rat.not_le]
end Fb

/-! Part A5: rules for ==, != and str of an instance of the program's own class (own __eq__ and __str__, no own __ne__). -/
namespace Fb
open PySem PySem.Spec PyProof.Rows L2
section
variable {prog : Program} {w : World} {A : Around} {E : Value → Shared → Prop} {s : Shared} {K : PySem.W.Frag} {x C f L : Addr} {h0 : Heap} {m : Str → Option Value} {ox : Obj} {od : Option Obj} {b tb : Value}
theorem slot_object_ne : Slot "object" "__ne__" "object.__ne__" :=
  .of (owner := "object") (n := "__ne__") (by rw [typeLookup_type, builtinLookup_eq_fast]; kernel_rfl) (by decide +kernel) (by decide +kernel) (by decide +kernel)
    (by first | exact .inl (by decide +kernel) | exact .inr (by decide +kernel)) (by rw [isSubtype_type]; kernel_rfl)
/-- a special method that is a built-in slot, looked up as comparisons do -/
theorem ifBound_B {M : Model} {name : Str} {id : String} {args : List Value} {Q : Option Value → Shared → Prop} (X : K.In s.heap) (I : PySem.W.InstAt s.heap x ox C od) (hs : PySem.W.findIn K (.ref C) name = some (some (.builtin id)))
    (hb : ∀ self, bindSpecial (.builtin id) self = pure (.builtin id, [self]))
    (h : wpAny M A (call (.builtin id) (.ref x :: args)) (fun v => Q (some v)) E s) : wpAny M A (callSpecialIfBound? (.ref x) name args) Q E s := by
  simp only [callSpecialIfBound?, bindSpecialIfBound?]
  refine wpAny_holding (wpAny_bind (wpAny_bind (wpAny_bind (I.type.here ((PySem.W.looks_findIn X hs).here ?_)))))
  refine wpAny_bind (wpAny_askSetting (wpAny_ite ?_))
  have fin : wpAny M A (call (.builtin id) ([.ref x] ++ args) >>= fun v => pure (some v)) Q E s := wpAny_bind (wpAny_mono h (fun v s' h' => wpAny_pure h') fun _ _ h' => h')
  split
  · exact wpAny_bind ((PySem.W.Looks.of_pure (hb _)).here (wpAny_pure (by exact fin)))
  · exact wpAny_tryCatch (wpAny_bind ((PySem.W.Looks.of_pure (hb _)).here (wpAny_pure (by exact fin))))
theorem objNe_K {Q : Value → Shared → Prop} (hu : A.in1.units < cLine) (X : K.In s.heap) (I : PySem.W.InstAt s.heap x ox C od) (hm : PySem.W.mroIn K C (.type "object") = some true) (hs : PySem.W.findIn K (.ref C) "__eq__" = some (some (.ref f))) (hf : PySem.W.isFn K (.ref f) = true)
    (h : wpAny (model prog w) A.in1 (call (.ref f) [.ref x, b]) (fun v s' => ∃ r, v = .bool r ∧ Q (.bool (!r)) s') E s) : wpAny (model prog w) A (call (.builtin "object.__ne__") [.ref x, b]) Q E s := by
  refine wpAny_call (codeAny_call_builtin slot_object_ne.plain PySem.F.cmpEntry_ne (PySem.W.check_slot (i := "object.__ne__") (owner := "object") (n := "__ne__") (by decide +kernel) (by decide +kernel) (I.type.andThen (PySem.W.looks_mroIn X hm)) (PySem.F.cmpArgs_ne _ _) ?_))
  unfold Builtin.«object.__ne__»
  refine wpAny_bind (m := slotArgs "__ne__" 1 _) (wpAny_pure ?_)
  refine wpAny_bind (m := cRoomFor _ _) (wpAny_cRoomFor hu ?_)
  refine wpAny_bind (m := callSpecialIfBound? (.ref x) (Str.ofString "__eq__") _) (PySem.W.ifBound_K X I hs hf (wpAny_mono h (fun r s' hq => ?_) fun _ _ y => y))
  obtain ⟨r, rfl, q⟩ := hq
  exact wpAny_bind (wpAny_truthy_bool (wpAny_pure q))
theorem ne_K {Q : Value → Shared → Prop} (hu : A.units < cLine) (hu1 : A.in1.units < cLine) (F : PyProof.Rows.Fr h0 L s.heap m) (X₀ : K.In h0) (I : PySem.W.InstAt s.heap x ox C od) (hb : PySem.W.Looks (model prog w) s.heap (typeOf b) tb) (hn : PySem.W.notFirst K C tb = true)
    (hne : PySem.W.findIn K (.ref C) "__ne__" = some (some (.builtin "object.__ne__"))) (hm : PySem.W.mroIn K C (.type "object") = some true) (hs : PySem.W.findIn K (.ref C) "__eq__" = some (some (.ref f))) (hf : PySem.W.isFn K (.ref f) = true)
    (h : wpAny (model prog w) A.in1 (call (.ref f) [.ref x, b]) (fun v s' => ∃ r, v = .bool r ∧ Q (.bool (!r)) s') E s) : wpAny (model prog w) A (richCompare .NotEq (.ref x) b) Q E s := by
  have X := X₀.keeps F.keep
  have one : wpAny (model prog w) A (tryCompare (.ref x) (cmpInfo .NotEq).2.1 b) (fun r s' => ∃ v, r = some v ∧ Q v s') E s := by
    unfold tryCompare
    refine wpAny_bind (ifBound_B X I hne slot_object_ne.bind (objNe_K hu1 X I hm hs hf (wpAny_mono h (fun v s' hv => ?_) fun _ _ e => e)))
    obtain ⟨r, rfl, q⟩ := hv
    exact ⟨r, rfl, wpAny_pure ⟨_, rfl, q⟩⟩
  unfold richCompare
  simp only [oneThing_ref]
  refine wpAny_holding (wpAny_bind (wpAny_cRoomFor hu ?_))
  refine wpAny_bind (I.type.here (wpAny_bind (hb.here ?_)))
  split
  · rename_i q
    have e : PySem.W.subIn K tb (.ref C) = some false := by
      rcases Bool.or_eq_true_iff.mp hn with e | e
      · rw [beq_iff_eq.mp e] at q; simp at q
      · exact beq_iff_eq.mp e
    refine wpAny_bind ((PySem.W.looks_subIn X e).here ?_)
    simp only [Bool.false_eq_true, if_false]
    refine wpAny_bind (wpAny_mono one (fun r s' z => ?_) fun _ _ e => e)
    obtain ⟨v, rfl, hq⟩ := z
    exact wpAny_pure hq
  · refine wpAny_bind (wpAny_pure ?_)
    simp only [Bool.false_eq_true, if_false]
    refine wpAny_bind (wpAny_mono one (fun r s' z => ?_) fun _ _ e => e)
    obtain ⟨v, rfl, hq⟩ := z
    exact wpAny_pure hq
open Builtin Builtin.Str in
theorem str_K {Q : Value → Shared → Prop} (hu : A.in1.in1.units < cLine) (X : K.In s.heap) (I : PySem.W.InstAt s.heap x ox C od) (hs : PySem.W.findIn K (.ref C) "__str__" = some (some (.ref f))) (hf : PySem.W.isFn K (.ref f) = true)
    (h : wpAny (model prog w) A.in1.in1 (call (.ref f) [.ref x]) (PySem.W.StrBack Q) E s) : wpAny (model prog w) A (call (.type "str") [.ref x]) Q E s := by
  refine callType_codes (T := "str") (Bi := Builtin.«object.__init__») (Q₁ := fun r s₁ => ∃ y u, r = .str y u ∧ Q r s₁) PySem.F.called_str (PySem.F.typeCall_str_1 _) PySem.F.entry_object_init ?_ ?_
  · refine codeAny_of_tree ?_
    show wpAny _ A.in1.in1 (do checkBuiltinCall "str.__new__" ⟨[.type "str", .ref x], []⟩; again (.builtin "str.__new__" ⟨[.type "str", .ref x], []⟩)) _ _ s
    refine wpAny_bind (wpAny_of_eq (PySem.F.newCall_str_1 _) (wpAny_pure ⟨plainId_quiet (by decide +kernel) _, codeAny_builtin PySem.F.entry_str_new ?_⟩))
    rw [Around.under_plainId (by decide +kernel) _]
    rw [str_new_tree]
    refine wpAny_bind (wpAny_pure ?_)
    refine wpAny_bind (wpAny_of_eq isSubtype_str_str ?_)
    have key : wpAny (model prog w) A.in1.in1 (PySem.Builtin.Str.strOf (.ref x)) (fun r s₁ => ∃ y u, r = .str y u ∧ Q r s₁) E s := by
      unfold PySem.Builtin.Str.strOf
      rw [show isExactStr (.ref x) = false from rfl]
      refine wpAny_bind (m := cRoomFor _ _) (wpAny_cRoomFor hu ?_)
      refine wpAny_bind (m := callSpecial? (.ref x) (Str.ofString "__str__")) (PySem.W.special_fn X I hs (beq_iff_eq.mp hf) (wpAny_mono h (fun r s' z => ?_) fun _ _ y => y))
      cases r <;> first | exact z.elim | exact wpAny_pure ⟨_, _, rfl, z⟩
    exact wpAny_bind (wpAny_mono key (fun r s₁ hr => wpAny_pure hr) fun _ _ y => y)
  · rintro obj s₁ ⟨y, u, rfl, hq⟩
    exact ⟨typeIs_str _ _ _, PySem.F.args_object_init_2 _ _, object_init_meets PySem.F.called_str.init.lookup PySem.F.called_str.made (by decide) prog w A.in1 _ s₁ ⟨typeIs_str _ _ _, rfl, hq⟩⟩
end
section
variable {X : Cx} {k : Nat} {C f : Addr} {fd : FuncData} {ps : List Str} {sp : Sp}
/-- what is asked of the two: the first an instance of C, the second of a type that is no subclass -/
def rOwn2 (K : PySem.W.Frag) (C : Addr) (sp : Sp) (g : Bool → Bool) : R2 := fun x y H Q => ∃ a dx fs t, x = .ref a ∧ H a = some (.ins C dx fs) ∧ TyX K H y t ∧ PySem.W.notFirst K C t = true ∧ sp [x, y] H (fun v H' => ∃ r, v = .bl r ∧ Q (.bl (g r)) H') E0
theorem run_in {A : Around} {pins : List (Addr × Obj)} {σ : L2.St} {H : Hp} {s : Shared} {Q : VK} {us : List Value} {vs : List V} (F : FnOk X.prog X.w X.K X.mg X.base CX0 k f fd ps sp) (hr : Room k A) (he : Env0 X.prog X.w X.K X.mg X.base A X.stack s H) (hb : Binds X.K fd ps [])
    (I : Inv X pins σ H s) (r : Vals vs us) (h : sp vs H Q E0) : wpAny (model X.prog X.w) A (call (.ref f) us) (EP X pins σ Q) X.xe s := by
  have hl : (us ++ []).length = ps.length := by rw [List.append_nil, ← r.length]; exact F.len _ _ _ _ h
  have hbb := hb s us I.kIn hl
  rw [List.append_nil] at hbb
  refine wpAny_call (codeAny_mono (F.run A X.stack s H ⟨us, []⟩ us vs Q E0 hr he hbb r h) fun r s' hq => ?_)
  cases r with
  | error e => exact hq.elim
  | ok fl =>
    cases fl with
    | ret u => exact I.after hq
    | next => exact False.elim hq
    | brk => exact False.elim hq
    | cont => exact False.elim hq
theorem op_eqOwn (F : FnOk X.prog X.w X.K X.mg X.base CX0 k f fd ps sp) (hr : Room (k + 1) X.A) (hb : Binds X.K fd ps []) (hs : PySem.W.findIn X.K (.ref C) "__eq__" = some (some (.ref f))) (hf : PySem.W.isFn X.K (.ref f) = true) :
    OpR X (compareOp .Eq) (rOwn2 X.K C sp id) := by
  intro pins s σ H x y v u Q I rx ry h
  obtain ⟨a, dx, fs, t, rfl, ha, ty, hn, hsp⟩ := h
  cases rx
  obtain ⟨P, Z, p, _⟩ := kit_of I ry ty
  obtain ⟨mA, J, _⟩ := ins_get I.hok ha
  obtain ⟨od, J, _⟩ := J.look
  obtain ⟨m, hF⟩ := I.fr
  show wpAny (model X.prog X.w) X.A (richCompare .Eq (.ref a) u) (EP X pins σ Q) X.xe s
  refine PySem.W.cmp_K (op := .Eq) (tb := t) hr.units0 hF I.ok.mod.kin J (Z.ty _ _ I.kIn p) hn hs hf ?_
  refine wpAny_mono (run_in F (hr.mono (Nat.le_succ k)) I.env0 hb I (vs := [.ref a, y]) (.cons rfl (.cons ry .nil)) hsp) (fun r s' z => ?_) fun _ _ e => e
  obtain ⟨z1, H', I', rz, b, rfl, q⟩ := z
  cases rz
  exact ⟨.bl b, H', I', rfl, q⟩
theorem op_neOwn (F : FnOk X.prog X.w X.K X.mg X.base CX0 k f fd ps sp) (hr : Room (k + 1) X.A) (hb : Binds X.K fd ps []) (hs : PySem.W.findIn X.K (.ref C) "__eq__" = some (some (.ref f))) (hf : PySem.W.isFn X.K (.ref f) = true)
    (hne : PySem.W.findIn X.K (.ref C) "__ne__" = some (some (.builtin "object.__ne__"))) (hm : PySem.W.mroIn X.K C (.type "object") = some true) :
    OpR X (compareOp .NotEq) (rOwn2 X.K C sp not) := by
  intro pins s σ H x y v u Q I rx ry h
  obtain ⟨a, dx, fs, t, rfl, ha, ty, hn, hsp⟩ := h
  cases rx
  obtain ⟨P, Z, p, _⟩ := kit_of I ry ty
  obtain ⟨mA, J, _⟩ := ins_get I.hok ha
  obtain ⟨od, J, _⟩ := J.look
  obtain ⟨m, hF⟩ := I.fr
  show wpAny (model X.prog X.w) X.A (richCompare .NotEq (.ref a) u) (EP X pins σ Q) X.xe s
  refine ne_K (tb := t) hr.units0 hr.in1.units0 hF I.ok.mod.kin J (Z.ty _ _ I.kIn p) hn hne hm hs hf ?_
  refine wpAny_mono (run_in (A := X.A.in1) F hr.in1 I.env0.in1 hb I (vs := [.ref a, y]) (.cons rfl (.cons ry .nil)) hsp) (fun r s' z => ?_) fun _ _ e => e
  obtain ⟨z1, H', I', rz, b, rfl, q⟩ := z
  cases rz
  exact ⟨b, rfl, .bl (!b), H', I', rfl, q⟩
/-- str of an instance -/
theorem call_strOwn (F : FnOk X.prog X.w X.K X.mg X.base CX0 k f fd ps sp) (hr : Room (k + 2) X.A) (hb : Binds X.K fd ps []) (hs : PySem.W.findIn X.K (.ref C) "__str__" = some (some (.ref f))) (hf : PySem.W.isFn X.K (.ref f) = true) :
    CallR X (.type "str") (fun xs H Q => ∃ a dx fs, xs = [.ref a] ∧ H a = some (.ins C dx fs) ∧ sp [.ref a] H (fun v H' => ∃ z, v = .str z ∧ Q v H') E0) := by
  intro pins s σ H xs us Q I r h
  obtain ⟨a, dx, fs, rfl, ha, hsp⟩ := h
  obtain ⟨u, rfl, ru⟩ := vals1 r
  cases ru
  obtain ⟨mA, J, _⟩ := ins_get I.hok ha
  obtain ⟨od, J, _⟩ := J.look
  refine str_K hr.in1.in1.units0 I.kIn J hs hf ?_
  refine wpAny_mono (run_in (A := X.A.in1.in1) F hr.in1.in1 I.env0.in1.in1 hb I (vs := [.ref a]) (.cons rfl .nil) hsp) (fun r s' z => ?_) fun _ _ e => e
  obtain ⟨z1, H', I', rz, y, rfl, q⟩ := z
  obtain ⟨t, rfl⟩ := rz
  exact ⟨.str y, H', I', ⟨t, rfl⟩, q⟩
/-- the same with the written part named -/
theorem op_eqOwnK {K : PySem.W.Frag} (hK : X.K = K) (F : FnOk X.prog X.w X.K X.mg X.base CX0 k f fd ps sp) (hr : Room (k + 1) X.A) (hb : Binds X.K fd ps []) (hs : PySem.W.findIn X.K (.ref C) "__eq__" = some (some (.ref f))) (hf : PySem.W.isFn X.K (.ref f) = true) :
    OpR X (compareOp .Eq) (rOwn2 K C sp id) := hK ▸ op_eqOwn F hr hb hs hf
end
end Fb

/-! Part A6: counting truths; orders. -/
namespace Fb
open PySem PySem.Spec PyProof.Rows L2
section
variable {X : Cx}
def isT : Value → Bool
  | .bool b => b
  | _ => false
/-- xs.count(True), xs a list of truths -/
def rCntB (K : PySem.W.Frag) : V → List V → Hp → VK → Prop := fun x xs H Q => ∃ (p : Addr) (bs : List Bool), x = .ref p ∧ xs = [.bl true] ∧ SqL K H p (bs.map V.bl) ∧ Q (.int (bs.count true : Nat)) H
theorem mt_countB : MtR X "list.count" (rCntB X.K) := by
  intro pins s σ H x xs v us Q I rx rxs h
  obtain ⟨p, bs, rfl, rfl, hs, q⟩ := h
  cases rx
  obtain ⟨u, rfl, ru⟩ := rxs.one
  cases ru
  obtain ⟨its, rv, ⟨⟨cls, dd, data, sl⟩, n, ho, hc, hdn, hd⟩, hlen⟩ := I.list hs
  simp only at hc hd
  subst hc hd
  have hb := rv.bls
  refine call_meets PySem.F.slot_list_count ⟨_, ho, rfl⟩ PySem.F.entry_list_count (PySem.F.args_list_count_2 _ _)
    (SeqAt.list_countAt p its.toArray n dd sl (.bool true) isT) ⟨ho, fun y hy => ?_, ?_⟩
  · have hy' : y ∈ its := by simpa using hy
    rw [hb] at hy'
    obtain ⟨b, _, rfl⟩ := List.mem_map.mp hy'
    have e := eqAt_V (A := X.A.in1) (s := s) (y := .bl b) (x := .bl true) (u := .bool b) (v := .bool true) rfl rfl rfl rfl
    have e2 : eqV (.bl b) (.bl true) = isT (.bool b) := by cases b <;> rfl
    rw [e2] at e
    exact e
  · have ec : its.toArray.toList.countP isT = bs.count true := by
      rw [hb]
      clear hb rv hs hlen hdn ho q
      induction bs with
      | nil => rfl
      | cons b r ih =>
        simp only [List.map_cons, List.countP_cons, List.count_cons] at ih ⊢
        cases b <;> simp_all [isT]
    refine ⟨.int (bs.count true : Nat), H, I.tok _, ⟨s.toks, ?_⟩, q⟩
    show Value.int ((its.toArray.toList.countP isT : Nat) : Int) s.toks = Value.int ((bs.count true : Nat) : Int) s.toks
    rw [ec]
end
theorem one_of_three (x y : Rat) : [decide (x < y), decide (x = y), decide (y < x)].count true = 1 := by
  by_cases h1 : x < y
  · have h2 : x ≠ y := Rat.ne_of_lt h1
    have h3 : ¬ y < x := Rat.not_lt.mpr (Rat.le_of_lt h1)
    simp [h1, h2, h3]
  · by_cases h2 : x = y
    · subst h2
      simp [h1]
    · have h3 : y < x := Rat.lt_of_le_of_ne (Rat.not_lt.mp h1) (fun e => h2 e.symm)
      simp [h1, h2, h3]
theorem lt_trans' {x y z : Rat} (h1 : x < y) (h2 : y < z) : x < z := by
  have h := Rat.le_trans (Rat.le_of_lt h1) (Rat.le_of_lt h2)
  refine Rat.lt_of_le_of_ne h fun e => ?_
  subst e
  exact Rat.not_le.mpr h1 (Rat.le_of_lt h2)
theorem bd0 : Bd 1 0 := ⟨by decide, by decide⟩
theorem bd1 : Bd 1 1 := ⟨by decide, by decide⟩
theorem rsum_rev : ∀ qs : List Rat, rsum qs.reverse = rsum qs
  | [] => rfl
  | q :: r => by
    rw [List.reverse_cons, rsum_append, rsum_rev r]
    show rsum r + (q + 0) = q + rsum r
    rw [Rat.add_zero, Rat.add_comm]
end Fb
namespace Fb
open PySem PySem.Spec PyProof.Rows L2
theorem cut_from {xs : List V} {k : Nat} (h : k ≤ xs.length) : cutV xs (some (k : Int)) none = xs.drop k := by
  unfold cutV
  rw [HT.sIx_nat, HT.sIx_none, Nat.min_eq_left h]
  exact List.take_of_length_le (by rw [List.length_drop]; exact Nat.le_refl _)
theorem cut_to {xs : List V} {k : Nat} (h : k ≤ xs.length) : cutV xs none (some (k : Int)) = xs.take k := by
  unfold cutV
  rw [HT.sIx_nat, HT.sIx_none, Nat.min_eq_left h]
  rfl
/-- a share with its bound -/
def Sh (C : Addr) (n : Nat) (G : Hp) (v : V) (q : Rat) : Prop := IsShare C G v q ∧ Bd n q
theorem Sh.mono {C : Addr} {n : Nat} {G G' : Hp} {v : V} {q : Rat} (h : Sh C n G v q) (s : Same G G') : Sh C n G' v q := ⟨h.1.mono s, h.2⟩
theorem AllAre.few {C : Addr} {n N : Nat} {G : Hp} {vs : List V} {qs : List Rat} (h : AllAre (Sh C n G) vs qs) (l : vs.length ≤ N) (s : n * N ≤ 8000) (m : N ≤ 999) (p : 0 < n) : Few n N qs :=
  ⟨fun q hq => by obtain ⟨y, hy⟩ := h.mem hq; exact hy.2, by rw [← h.1]; exact l, s, m, p⟩
theorem AllAre.shares {C : Addr} {n : Nat} {G H : Hp} {p : Addr} {vs : List V} {qs : List Rat} (h : AllAre (Sh C n G) vs qs) (s : Same G H) (e : H p = some (.lst vs)) : IsShares C H (.ref p) qs :=
  ⟨p, vs, rfl, e, h.imp fun _ _ r => r.1.mono s⟩
theorem bd_div {n : Nat} {t b : Int} (h : b ≠ 0) (ht : t.natAbs < 2 ^ n) (hb : b.natAbs < 2 ^ n) : Bd n (Rat.divInt t b) := .divInt h ht hb
end Fb

/-! Part A7: errors of the program's own: made in a constructor inside a try, asked for their class in the suite. -/
namespace Fb
open PySem PySem.Spec PyProof.Rows L2
section
variable {X : Cx} {CX : CXT} {k : Nat} {f C : Addr} {fd : FuncData} {ps : List Str} {sp : Sp} {dvs : List V} {ds : List Value} {E : L2.St → XK} {x : Str} {p pos : Pos} {e : Expr} {es : List Expr} {t : TA}
theorem run_makeS {pins : List (Addr × Obj)} {σ : L2.St} {H : Hp} {s : Shared} {Q : VK} {us : List Value} {vs : List V} (M : Mk X.K C f) (F : FnOk X.prog X.w X.K X.mg X.base CX k f fd ps sp) (hr : Room (k + 1) X.A) (hb : Binds X.K fd ps ds) (hd : Vals dvs ds)
    (hx : PassesAt CX X σ (E σ)) (I : Inv X pins σ H s) (r : Vals vs us)
    (h : ∀ x dx, H x = none → H dx = none → dx ≠ x → sp (.ref x :: (vs ++ dvs)) (upd (upd H dx (.own x)) x (.ins C dx [])) (fun v H2 => v = .non ∧ Q (.ref x) H2) (E σ)) :
    wpAny (model X.prog X.w) X.A (call (.ref C) us) (EP X pins σ Q) X.xe s := by
  have hq := h (s.heap.objs.size + 1) s.heap.objs.size (I.hok.fresh (Nat.le_succ _)) (I.hok.fresh (Nat.le_refl _)) (Nat.ne_of_lt (Nat.lt_succ_self _))
  have I2 := Inv.made (C := C) I
  have r2 : Vals (V.ref (s.heap.objs.size + 1) :: (vs ++ dvs)) (Value.ref (s.heap.objs.size + 1) :: (us ++ ds)) := .cons rfl (r.append hd)
  have hl : (Value.ref (s.heap.objs.size + 1) :: us ++ ds).length = ps.length := by
    have e := r2.length
    rw [F.len _ _ _ _ hq] at e
    exact e.symm
  refine wpAny_call (make_map (f := f) I.kIn M.makes M.init (beq_iff_eq.mp M.fn) (codeAny_mono (F.run _ X.stack _ _ ⟨Value.ref (s.heap.objs.size + 1) :: us, []⟩ (Value.ref (s.heap.objs.size + 1) :: (us ++ ds)) _ _ (E σ) (hr.make C us [])
    (I2.env0.make C us []) (hb _ (Value.ref (s.heap.objs.size + 1) :: us) I2.kIn hl) r2 hq) fun r s' hq' => ?_))
  cases r with
  | error e => exact hx pins _ _ e s' I2 hq'
  | ok fl =>
    cases fl with
    | ret u =>
      obtain ⟨v, H', I3, rv, ev, q3⟩ := I2.after hq'
      subst ev
      exact ⟨rv, ⟨V.ref (s.heap.objs.size + 1), H', I3, rfl, q3⟩⟩
    | next => exact False.elim hq'
    | brk => exact False.elim hq'
    | cont => exact False.elim hq'
def tMakeS (C : Addr) (sp : Sp) (dvs : List V) (E : L2.St → XK) (t : TA) : TE := fun σ H Q => t σ H fun vs H1 => ∀ x dx, H1 x = none → H1 dx = none → dx ≠ x →
  sp (.ref x :: (vs ++ dvs)) (upd (upd H1 dx (.own x)) x (.ins C dx [])) (fun v H2 => v = .non ∧ Q (.ref x) H2) (E σ)
theorem pe_makeS (M : Mk X.K C f) (F : FnOk X.prog X.w X.K X.mg X.base CX k f fd ps sp) (hr : Room (k + 1) X.A) (hg : Gl X x) (hm : X.mg x = some (.ref C)) (hb : Binds X.K fd ps ds) (hd : Vals dvs ds) (hx : ∀ σ, PassesAt CX X σ (E σ))
    (ha : PA X (e :: es) t) (hdb : (x == ("__debug__" : Str)) = false := by decide) (he : starEach (e :: es) X.env = (false, eval e X.env) :: starEach es X.env := by rfl) (hpl : (backTo pos (starEach es X.env)).any (·.1) = false := by rfl) :
    PE X (.Call (.Name x p) (e :: es) [] pos) (tMakeS C sp dvs E t) := by
  refine ⟨fun pins s σ H Q I h => ?_⟩
  refine wpAny_Call_Name_kw (ld_glob I hg hm ?_ hdb)
  refine PySem.W.callWith_K (h₀ := X.base) I.ok.mod.kin M.kp (thn (ha.run pos pins s σ H _ I h) fun us s1 ⟨vs, H1, I1, r, q⟩ => ⟨I1.kIn, ?_⟩) he hpl
  exact run_makeS M F hr hb hd (hx σ) I1 r q
end
section
variable {X : Cx} {a : Addr} {oe : Obj} {cls : Value} {d : Option Addr} {pn : List (Addr × Obj)}
/-- isinstance(e, c) and isinstance(e, (c, ..)), e the error that the suite holds, of a class of the program's own -/
def rIsErr (K : PySem.W.Frag) (cls : Value) (d : Option Addr) (a : Addr) : List V → Hp → VK → Prop := fun xs H Q => ∃ (D : Addr) (c : V) (u : Value) (b : Bool), cls = .ref D ∧ d = none ∧ ExcC K D ∧ xs = [.ref a, c] ∧ ClsV c u ∧ PySem.W.kitOne K (.ref D) u = some b ∧ Q (.bl b) H
theorem call_isErr (hz : Zc cls d oe) (hf : ∃ vs, oe.data = .fields vs) : CallR (X.suite a ((a, oe) :: pn)) (.builtin "isinstance") (rIsErr X.K cls d a) := by
  intro pins s σ H xs us Q I r h
  obtain ⟨D, c, u, b, rfl, rfl, C, rfl, k, e, q⟩ := h
  exact call_isE (X := X) C hz hf pins s σ H _ us Q I r ⟨c, u, b, rfl, fun w hw => k.eq hw, e, q⟩
def rIsErrT (K : PySem.W.Frag) (cls : Value) (d : Option Addr) (a : Addr) : List V → Hp → VK → Prop := fun xs H Q => ∃ (D tp : Addr) (cs : List V) (us : List Value) (b : Bool), cls = .ref D ∧ d = none ∧ ExcC K D ∧ xs = [.ref a, .ref tp] ∧ H tp = some (.tup cs) ∧ Paired ClsV cs us ∧ PySem.W.kitAny K (.ref D) us = some b ∧ Q (.bl b) H
theorem call_isErrT (hz : Zc cls d oe) (hf : ∃ vs, oe.data = .fields vs) : CallR (X.suite a ((a, oe) :: pn)) (.builtin "isinstance") (rIsErrT X.K cls d a) := by
  intro pins s σ H xs us Q I r h
  obtain ⟨D, tp, cs, ws, b, rfl, rfl, C, rfl, hT, k, e, q⟩ := h
  obtain ⟨u1, u2, rfl, r1, r2⟩ := vals2 r
  cases r1
  cases r2
  obtain ⟨hget, _⟩ := I.pin (a, oe) (List.mem_append.mpr (.inl List.mem_cons_self))
  obtain ⟨vs, hv⟩ := hf
  have J : PySem.W.InstAt s.heap a oe D none := by
    obtain ⟨oc, od, oda, osl⟩ := oe
    obtain ⟨h1, h2⟩ := hz
    dsimp only at h1 h2 hv
    subst h1 h2 hv
    exact ⟨hget, rfl, rfl, trivial⟩
  obtain ⟨_, its, rv, o, h1, h2, n, h3⟩ := (show ObjOk X.prog X.w H s.heap tp (.tup cs) from I.hok tp _ hT)
  have e3 := ClsV.all k rv
  subst e3
  obtain ⟨oc, od, dt, sl⟩ := o
  simp only at h2 h3
  subst h2 h3
  exact PySem.W.kia_tup (PySem.W.handS_kitx_exc C.hg C.hk C.hs C.hd C.ha C.hn C.ht C.hm) I.kIn J h1 e (fun z => nomatch z) fun tk => ⟨.bl b, H, I.kept (t' := tk) fun _ _ z => z, rfl, q⟩
end
end Fb

/-! Part A8: == and != of lists whose items have an own __eq__, with either answer; pairs that stand for fractions. -/
namespace Fb
open PySem PySem.Spec PySem.SeqAt
open AutoSeq1 (wpAny_loadPart')
open MeetsSeq MeetsSeq2 MeetsSeq3 SeqRoads2
section
variable {prog : Program} {w : World} {A : Around} {R : Result → Shared → Prop}
def ListB (prog : Program) (w : World) (A : Around) (E : Value → Shared → Prop) (l b : Addr) (N : Nat) (e : Nat → Bool) (I : Shared → Prop) : Prop :=
  ∀ s, I s → ∃ (items items2 : Array Value) (n n2 : Nat), s.heap.get? l = some { cls := .type "list", data := .seq items n } ∧ s.heap.get? b = some { cls := .type "list", data := .seq items2 n2 } ∧ items.size = N ∧ items2.size = N ∧
    ∀ i (h1 : i < items.size) (h2 : i < items2.size), wpAny (model prog w) A.in1 (eqBool items[i] items2[i]) (fun r s' => r = e i ∧ I s') E s

/-- at each turn the two lists are read anew: N items each, of the i-th two e tells whether they are equal -/
theorem eq_loopB_eq (l b : Addr) (N : Nat) (e : Nat → Bool) (I : Shared → Prop) (hl : ListB prog w A (fun e s' => R (.error e) s') l b N e I)
    (fin : ∀ s, I s → R (.ok (.ret (.bool (((List.range N).all e))))) s) (k : Nat) :
    ∀ i : Nat, N - i = k → i ≤ N → ((List.range N).take i).all e = true → ∀ s, I s →
      wpAny (model prog w) A.in1 (Builtin.«list.__eq__.loop» ⟨[.ref l, .ref b, rawInt i, rawInt 2], []⟩) (GQ.FinOf prog w A R) (fun e s' => R (.error e) s') s := by
  induction k with
  | zero =>
    intro i hk hi ht s h
    obtain ⟨items, items2, n, n2, hl1, hb1, hs1, hs2, _⟩ := hl _ h
    have hi' : i = N := by omega
    have hR : R (.ok (.ret (.bool ( true)))) s := by
      have := fin s h
      rw [hi', List.take_of_length_le (by simp)] at ht
      rwa [ht] at this
    obtain ⟨hp, g, d, tk, os⟩ := s
    wp_walk using wpAny_loadPart' hl1, wpAny_loadPart' hb1
    have hi1 : items[((i : Nat) : Int).toNat]? = none := by simp; omega
    have hi2 : items2[((i : Nat) : Int).toNat]? = none := by simp; omega
    rw [hi1, hi2]
    wp_walk using wpAny_loadPart' hl1, wpAny_loadPart' hb1
    show R (.ok (.ret (.bool (items.size == items2.size)))) _
    rw [hs1, hs2]
    simpa using hR
  | succ k ih =>
    intro i hk hi ht s h
    obtain ⟨items, items2, n, n2, hl1, hb1, hs1, hs2, turn⟩ := hl _ h
    have hlt : i < items.size := by omega
    have hlt2 : i < items2.size := by omega
    have htn := turn i hlt hlt2
    obtain ⟨hp, g, d, tk, os⟩ := s
    wp_walk using wpAny_loadPart' hl1, wpAny_loadPart' hb1
    have hi1 : items[((i : Nat) : Int).toNat]? = some items[i] := by simp [hlt]
    have hi2 : items2[((i : Nat) : Int).toNat]? = some items2[i] := by simp [hlt2]
    have hc : ((i : Int) + 1) = ((i + 1 : Nat) : Int) := by omega
    rw [hi1, hi2]
    refine wpAny_bind (wpAny_mono htn (fun r s2 h2 => ?_) fun _ _ x => x)
    obtain ⟨hr, h2⟩ := h2
    have hd : (List.range N).drop i = i :: (List.range N).drop (i + 1) := by
      rw [List.drop_eq_getElem_cons (by simp; omega)]
      simp
    cases hb' : e i with
    | true =>
      rw [hb'] at hr
      subst hr
      have ht2 : ((List.range N).take (i + 1)).all e = true := by
        rw [List.take_add_one, List.all_append, ht]
        simp [show i < N by omega, hb']
      have hrec := ih (i + 1) (by omega) (by omega) ht2 s2 h2
      obtain ⟨hp2, g2, d2, tk2, os2⟩ := s2
      wp_walk
      rw [hc]
      exact ⟨plainId_quiet plain_eq_loop _, codeAny_builtin entry_eq_loop (by
        rw [Around.under_plainId plain_eq_loop _]
        exact hrec)⟩
    | false =>
      rw [hb'] at hr
      subst hr
      have hR := fin s2 h2
      have hall : (List.range N).all e = false := by
        rw [← List.take_append_drop i (List.range N), List.all_append, ht, hd, List.all_cons, hb']
        rfl
      rw [hall] at hR
      obtain ⟨items', items2', n', n2', hl2, hb2, hs1', hs2', _⟩ := hl _ h2
      obtain ⟨hp2, g2, d2, tk2, os2⟩ := s2
      have hi1' : items'[((i : Nat) : Int).toNat]? = some (items'[i]'(by omega)) := by simp [show i < items'.size by omega]
      have hi2' : items2'[((i : Nat) : Int).toNat]? = some (items2'[i]'(by omega)) := by simp [show i < items2'.size by omega]
      wp_walk using wpAny_loadPart' hl2, wpAny_loadPart' hb2
      rw [hi1', hi2']
      wp_walk
      simpa using hR
theorem list_eqB_eq (l b : Addr) (N : Nat) (e : Nat → Bool) (I : Shared → Prop) (hl : ListB prog w A (fun e s' => R (.error e) s') l b N e I)
    (fin : ∀ s, I s → R (.ok (.ret (.bool (((List.range N).all e))))) s) {s : Shared} (h : I s) :
    wpAny (model prog w) A.in1 (Builtin.«list.__eq__» ⟨[.ref l, .ref b], []⟩) (GQ.FinOf prog w A R) (fun e s' => R (.error e) s') s := by
  obtain ⟨items, items2, n, n2, hl1, hb1, hs1, hs2, _⟩ := hl _ h
  have hrec := eq_loopB_eq (A := A) (R := R) l b N e I hl fin _ 0 rfl (Nat.zero_le _) rfl s h
  obtain ⟨hp, g, d, tk, os⟩ := s
  have f3 := AutoSeq1.sub_list_list
  have hne : ¬ (items.size != items2.size) = true := by simp [hs1, hs2]
  wp_walk using wpAny_loadPart' hl1, wpAny_loadPart' hb1
  exact ⟨plainId_quiet plain_eq_loop _, codeAny_builtin entry_eq_loop (by
    rw [Around.under_plainId plain_eq_loop _]
    exact hrec)⟩
theorem rc_listB_eq {E : Value → Shared → Prop} {s : Shared} {l b : Addr} {N : Nat} {Q : Value → Shared → Prop} (hu : A.units < cLine) (e : Nat → Bool) (I : Shared → Prop) (hl : ListB prog w A E l b N e I)
    (fin : ∀ s, I s → Q (.bool (((List.range N).all e))) s) (h : I s) : wpAny (model prog w) A (richCompare .Eq (.ref l) (.ref b)) Q E s := by
  obtain ⟨items, items2, n, n2, hl1, hb1, _, _, _⟩ := hl _ h
  refine wpAny_richCompare_same_room (op := .Eq) ⟨_, hl1, rfl⟩ ⟨_, hb1, rfl⟩ F.slot_list_eq (GQ.call_here F.slot_list_eq ⟨_, hl1, rfl⟩ F.entry_list_eq (F.args_list_eq_2 _ _) ?_) hu
  exact list_eqB_eq (R := wants (fun v s' => v ≠ .notImplemented ∧ Q v s') E) l b N e I hl (fun s' q => ⟨(fun x => nomatch x), fin s' q⟩) h

/-- at each turn the two lists are read anew: N items each, of the i-th two e tells whether they are equal -/
theorem eq_loopB_ne (l b : Addr) (N : Nat) (e : Nat → Bool) (I : Shared → Prop) (hl : ListB prog w A (fun e s' => R (.error e) s') l b N e I)
    (fin : ∀ s, I s → R (.ok (.ret (.bool (!((List.range N).all e))))) s) (k : Nat) :
    ∀ i : Nat, N - i = k → i ≤ N → ((List.range N).take i).all e = true → ∀ s, I s →
      wpAny (model prog w) A.in1 (Builtin.«list.__eq__.loop» ⟨[.ref l, .ref b, rawInt i, rawInt 3], []⟩) (GQ.FinOf prog w A R) (fun e s' => R (.error e) s') s := by
  induction k with
  | zero =>
    intro i hk hi ht s h
    obtain ⟨items, items2, n, n2, hl1, hb1, hs1, hs2, _⟩ := hl _ h
    have hi' : i = N := by omega
    have hR : R (.ok (.ret (.bool (! true)))) s := by
      have := fin s h
      rw [hi', List.take_of_length_le (by simp)] at ht
      rwa [ht] at this
    obtain ⟨hp, g, d, tk, os⟩ := s
    wp_walk using wpAny_loadPart' hl1, wpAny_loadPart' hb1
    have hi1 : items[((i : Nat) : Int).toNat]? = none := by simp; omega
    have hi2 : items2[((i : Nat) : Int).toNat]? = none := by simp; omega
    rw [hi1, hi2]
    wp_walk using wpAny_loadPart' hl1, wpAny_loadPart' hb1
    show R (.ok (.ret (.bool (items.size != items2.size)))) _
    rw [hs1, hs2]
    simpa using hR
  | succ k ih =>
    intro i hk hi ht s h
    obtain ⟨items, items2, n, n2, hl1, hb1, hs1, hs2, turn⟩ := hl _ h
    have hlt : i < items.size := by omega
    have hlt2 : i < items2.size := by omega
    have htn := turn i hlt hlt2
    obtain ⟨hp, g, d, tk, os⟩ := s
    wp_walk using wpAny_loadPart' hl1, wpAny_loadPart' hb1
    have hi1 : items[((i : Nat) : Int).toNat]? = some items[i] := by simp [hlt]
    have hi2 : items2[((i : Nat) : Int).toNat]? = some items2[i] := by simp [hlt2]
    have hc : ((i : Int) + 1) = ((i + 1 : Nat) : Int) := by omega
    rw [hi1, hi2]
    refine wpAny_bind (wpAny_mono htn (fun r s2 h2 => ?_) fun _ _ x => x)
    obtain ⟨hr, h2⟩ := h2
    have hd : (List.range N).drop i = i :: (List.range N).drop (i + 1) := by
      rw [List.drop_eq_getElem_cons (by simp; omega)]
      simp
    cases hb' : e i with
    | true =>
      rw [hb'] at hr
      subst hr
      have ht2 : ((List.range N).take (i + 1)).all e = true := by
        rw [List.take_add_one, List.all_append, ht]
        simp [show i < N by omega, hb']
      have hrec := ih (i + 1) (by omega) (by omega) ht2 s2 h2
      obtain ⟨hp2, g2, d2, tk2, os2⟩ := s2
      wp_walk
      rw [hc]
      exact ⟨plainId_quiet plain_eq_loop _, codeAny_builtin entry_eq_loop (by
        rw [Around.under_plainId plain_eq_loop _]
        exact hrec)⟩
    | false =>
      rw [hb'] at hr
      subst hr
      have hR := fin s2 h2
      have hall : (List.range N).all e = false := by
        rw [← List.take_append_drop i (List.range N), List.all_append, ht, hd, List.all_cons, hb']
        rfl
      rw [hall] at hR
      obtain ⟨items', items2', n', n2', hl2, hb2, hs1', hs2', _⟩ := hl _ h2
      obtain ⟨hp2, g2, d2, tk2, os2⟩ := s2
      have hi1' : items'[((i : Nat) : Int).toNat]? = some (items'[i]'(by omega)) := by simp [show i < items'.size by omega]
      have hi2' : items2'[((i : Nat) : Int).toNat]? = some (items2'[i]'(by omega)) := by simp [show i < items2'.size by omega]
      wp_walk using wpAny_loadPart' hl2, wpAny_loadPart' hb2
      rw [hi1', hi2']
      wp_walk
      simpa using hR
theorem list_eqB_ne (l b : Addr) (N : Nat) (e : Nat → Bool) (I : Shared → Prop) (hl : ListB prog w A (fun e s' => R (.error e) s') l b N e I)
    (fin : ∀ s, I s → R (.ok (.ret (.bool (!((List.range N).all e))))) s) {s : Shared} (h : I s) :
    wpAny (model prog w) A.in1 (Builtin.«list.__ne__» ⟨[.ref l, .ref b], []⟩) (GQ.FinOf prog w A R) (fun e s' => R (.error e) s') s := by
  obtain ⟨items, items2, n, n2, hl1, hb1, hs1, hs2, _⟩ := hl _ h
  have hrec := eq_loopB_ne (A := A) (R := R) l b N e I hl fin _ 0 rfl (Nat.zero_le _) rfl s h
  obtain ⟨hp, g, d, tk, os⟩ := s
  have f3 := AutoSeq1.sub_list_list
  have hne : ¬ (items.size != items2.size) = true := by simp [hs1, hs2]
  wp_walk using wpAny_loadPart' hl1, wpAny_loadPart' hb1
  exact ⟨plainId_quiet plain_eq_loop _, codeAny_builtin entry_eq_loop (by
    rw [Around.under_plainId plain_eq_loop _]
    exact hrec)⟩
theorem rc_listB_ne {E : Value → Shared → Prop} {s : Shared} {l b : Addr} {N : Nat} {Q : Value → Shared → Prop} (hu : A.units < cLine) (e : Nat → Bool) (I : Shared → Prop) (hl : ListB prog w A E l b N e I)
    (fin : ∀ s, I s → Q (.bool (!((List.range N).all e))) s) (h : I s) : wpAny (model prog w) A (richCompare .NotEq (.ref l) (.ref b)) Q E s := by
  obtain ⟨items, items2, n, n2, hl1, hb1, _, _, _⟩ := hl _ h
  refine wpAny_richCompare_same_room (op := .NotEq) ⟨_, hl1, rfl⟩ ⟨_, hb1, rfl⟩ F.slot_list_ne (GQ.call_here F.slot_list_ne ⟨_, hl1, rfl⟩ F.entry_list_ne (F.args_list_ne_2 _ _) ?_) hu
  exact list_eqB_ne (R := wants (fun v s' => v ≠ .notImplemented ∧ Q v s') E) l b N e I hl (fun s' q => ⟨(fun x => nomatch x), fin s' q⟩) h
end
end Fb

namespace Fb
open PySem PySem.Spec PyProof.Rows L2
/-- what == of two values tells, by the abstract heap -/
abbrev EqvB := V → V → Bool → Hp → Prop
/-- == tells what D says, and nothing else changes -/
def EqB (X : Cx) (n : Nat) (D : EqvB) : Prop :=
  ∀ (A : Around) (pins : List (Addr × Obj)) (s : Shared) (σ : L2.St) (H : Hp) (x y : V) (u v : Value) (b : Bool), Sub X n A → Inv X pins σ H s → RelV x u → RelV y v → D x y b H →
    wpAny (model X.prog X.w) A (eqBool u v) (fun r s' => r = b ∧ Inv X pins σ H s') X.xe s
def RcB (X : Cx) (n : Nat) (op : CmpOp) (g : Bool → Bool) (D : EqvB) : Prop :=
  ∀ (A : Around) (pins : List (Addr × Obj)) (s : Shared) (σ : L2.St) (H : Hp) (x y : V) (u v : Value) (b : Bool), Sub X n A → Inv X pins σ H s → RelV x u → RelV y v → D x y b H →
    wpAny (model X.prog X.w) A (richCompare op u v) (fun r s' => r = .bool (g b) ∧ Inv X pins σ H s') X.xe s
def Refl (D : EqvB) : Prop := ∀ x b H, D x x b H → b = true
section
variable {X : Cx} {n : Nat} {D : EqvB}
theorem RcB.eqB (h : RcB X n .Eq id D) (hr : ∀ x y b H, D x y b H → ∃ a c, x = .ref a ∧ y = .ref c) (hf : Refl D) : EqB X n D := by
  intro A pins s σ H x y u v b sb I rx ry d
  obtain ⟨a, c, rfl, rfl⟩ := hr _ _ _ _ d
  cases rx
  cases ry
  by_cases hab : a = c
  · subst hab
    rw [hf _ _ _ d]
    exact SeqAt.EqAt.same (A := A) (s := s) (.ref a) X.prog X.w X.xe _ ⟨rfl, I⟩
  · refine GQ.eqBool_refG hab (wpAny_mono (h A pins s σ H (.ref a) (.ref c) _ _ b sb I rfl rfl d) (fun r s' q => ?_) fun _ _ x => x)
    obtain ⟨hr', q⟩ := q
    exact ⟨b, hr', rfl, q⟩
/-- instances of the class at C with the text's own ==, whose promise sp tells b and changes nothing -/
def DInsB (C : Addr) (sp : Sp) : EqvB := fun x y b H => ∃ a c dx dy fs gs, x = .ref a ∧ y = .ref c ∧ H a = some (.ins C dx fs) ∧ H c = some (.ins C dy gs) ∧ sp [x, y] H (fun v H' => v = .bl b ∧ H' = H) E0
theorem rcB_ins {C f : Addr} {fd : FuncData} {ps : List Str} {sp : Sp} (F : FnOk X.prog X.w X.K X.mg X.base CX0 n f fd ps sp)
    (hs : PySem.W.findIn X.K (.ref C) "__eq__" = some (some (.ref f))) (hf : PySem.W.isFn X.K (.ref f) = true) (hb : Binds X.K fd ps []) : RcB X n .Eq id (DInsB C sp) := by
  intro A pins s σ H x y u v b sb I rx ry d
  obtain ⟨a, c, dx, dy, fs, gs, rfl, rfl, ha, hc, hsp⟩ := d
  cases rx
  cases ry
  obtain ⟨mA, J, _⟩ := ins_get I.hok ha
  obtain ⟨mB, J', _⟩ := ins_get I.hok hc
  obtain ⟨od, J, _⟩ := J.look
  obtain ⟨od', J', _⟩ := J'.look
  obtain ⟨m, hF⟩ := I.fr
  refine PySem.W.cmp_K (op := .Eq) (tb := .ref C) sb.room.units0 hF I.ok.mod.kin J J'.type (by simp [PySem.W.notFirst]) hs hf ?_
  have e0 : Env0 X.prog X.w X.K X.mg X.base A X.stack s H := by
    have e := I.env0
    exact ⟨by rw [sb.fr]; exact e.frames, e.mod, e.bs, e.bsz, e.funs, e.frf, e.hok, e.bare⟩
  refine wpAny_mono (run_in F sb.room e0 hb I (vs := [.ref a, .ref c]) (.cons rfl (.cons rfl .nil)) hsp) (fun r s' z => ?_) fun _ _ e => e
  obtain ⟨z1, H', I', rz, rfl, rfl⟩ := z
  cases rz
  exact ⟨rfl, I'⟩
def DListB (D : EqvB) : EqvB := fun x y b H => ∃ a c xs ys, x = .ref a ∧ y = .ref c ∧ H a = some (.lst xs) ∧ H c = some (.lst ys) ∧ xs.length = ys.length ∧
  ∃ e : Nat → Bool, (∀ (i : Nat) x y, xs[i]? = some x → ys[i]? = some y → D x y (e i) H) ∧ b = (List.range xs.length).all e
theorem refl_list (h : Refl D) : Refl (DListB D) := by
  intro x b H d
  obtain ⟨a, c, xs, ys, rfl, e, ha, hc, _, f, hf, rfl⟩ := d
  cases e
  rw [ha] at hc
  cases hc
  rw [List.all_eq_true]
  intro i hi
  have hi : i < xs.length := by simpa using hi
  exact h _ _ _ (hf i xs[i] xs[i] (List.getElem?_eq_getElem hi) (List.getElem?_eq_getElem hi))
theorem turnB (h : EqB X n D) {A : Around} (sb : Sub X (n + 1) A) {pins : List (Addr × Obj)} {σ : L2.St} {H : Hp} {xs ys : List V} {its its2 : List Value} {e : Nat → Bool} (p : ∀ (i : Nat) x y, xs[i]? = some x → ys[i]? = some y → D x y (e i) H) (r : Vals xs its) (r2 : Vals ys its2)
    (i : Nat) (h1 : i < its.toArray.size) (h2 : i < its2.toArray.size) (s' : Shared) (l : Inv X pins σ H s') :
    wpAny (model X.prog X.w) A.in1 (eqBool its.toArray[i] its2.toArray[i]) (fun r s2 => r = e i ∧ Inv X pins σ H s2) X.xe s' := by
  have g1 : its[i]? = some its.toArray[i] := by
    have h1' : i < its.length := by simpa using h1
    rw [List.getElem?_eq_getElem h1'] <;> simp
  have g2 : its2[i]? = some its2.toArray[i] := by
    have h2' : i < its2.length := by simpa using h2
    rw [List.getElem?_eq_getElem h2'] <;> simp
  have k1 : i < xs.length := by rw [r.length]; simpa using h1
  have k2 : i < ys.length := by rw [r2.length]; simpa using h2
  obtain ⟨u, hu, ru⟩ := r.get (List.getElem?_eq_getElem k1)
  obtain ⟨v, hv, rv⟩ := r2.get (List.getElem?_eq_getElem k2)
  rw [g1] at hu
  rw [g2] at hv
  rw [Option.some.inj hu, Option.some.inj hv]
  exact h A.in1 pins s' σ H _ _ u v _ sb.in1 l ru rv (p i _ _ (List.getElem?_eq_getElem k1) (List.getElem?_eq_getElem k2))
theorem rcB_list (h : EqB X n D) : RcB X (n + 1) .Eq id (DListB D) := by
  intro A pins s σ H x y u v b sb I rx ry d
  obtain ⟨a, c, xs, ys, rfl, rfl, ha, hc, hl, e, p, rfl⟩ := d
  cases rx
  cases ry
  refine rc_listB_eq (N := xs.length) sb.room.units0 e (fun s' => Inv X pins σ H s') (fun s' q => ?_) (fun s' q => ⟨rfl, q⟩) I
  obtain ⟨z, its, k, r, ea⟩ := q.hok a _ ha
  obtain ⟨z2, its2, k2, r2, ec⟩ := q.hok c _ hc
  exact ⟨its.toArray, its2.toArray, k, k2, ea, ec, by rw [List.size_toArray, ← r.length], by rw [List.size_toArray, ← r2.length, hl], fun i h1 h2 => turnB h sb p r r2 i h1 h2 s' q⟩
theorem rcB_listN (h : EqB X n D) : RcB X (n + 1) .NotEq not (DListB D) := by
  intro A pins s σ H x y u v b sb I rx ry d
  obtain ⟨a, c, xs, ys, rfl, rfl, ha, hc, hl, e, p, rfl⟩ := d
  cases rx
  cases ry
  refine rc_listB_ne (N := xs.length) sb.room.units0 e (fun s' => Inv X pins σ H s') (fun s' q => ?_) (fun s' q => ⟨rfl, q⟩) I
  obtain ⟨z, its, k, r, ea⟩ := q.hok a _ ha
  obtain ⟨z2, its2, k2, r2, ec⟩ := q.hok c _ hc
  exact ⟨its.toArray, its2.toArray, k, k2, ea, ec, by rw [List.size_toArray, ← r.length], by rw [List.size_toArray, ← r2.length, hl], fun i h1 h2 => turnB h sb p r r2 i h1 h2 s' q⟩
theorem eqB_list (h : EqB X n D) (hf : Refl D) : EqB X (n + 1) (DListB D) := (rcB_list h).eqB (fun _ _ _ _ d => let ⟨a, c, _, _, hx, hy, _⟩ := d; ⟨a, c, hx, hy⟩) (refl_list hf)
/-- x == y, x != y as expressions -/
def rEqB (g : Bool → Bool) (D : EqvB) : R2 := fun x y H Q => ∃ b, D x y b H ∧ Q (.bl (g b)) H
theorem op_eqB (h : RcB X n .Eq id D) (hr : Room n X.A) : OpR X (compareOp .Eq) (rEqB id D) := by
  intro pins s σ H x y v u Q I rx ry hq
  obtain ⟨b, d, q⟩ := hq
  show wpAny (model X.prog X.w) X.A (richCompare .Eq v u) (EP X pins σ Q) X.xe s
  refine wpAny_mono (h X.A pins s σ H x y v u b ⟨hr, rfl⟩ I rx ry d) (fun r s' z => ?_) fun _ _ x => x
  obtain ⟨rfl, I'⟩ := z
  exact ⟨.bl b, H, I', rfl, q⟩
theorem op_neB (h : RcB X n .NotEq not D) (hr : Room n X.A) : OpR X (compareOp .NotEq) (rEqB not D) := by
  intro pins s σ H x y v u Q I rx ry hq
  obtain ⟨b, d, q⟩ := hq
  show wpAny (model X.prog X.w) X.A (richCompare .NotEq v u) (EP X pins σ Q) X.xe s
  refine wpAny_mono (h X.A pins s σ H x y v u b ⟨hr, rfl⟩ I rx ry d) (fun r s' z => ?_) fun _ _ x => x
  obtain ⟨rfl, I'⟩ := z
  exact ⟨.bl (!b), H, I', rfl, q⟩
end
/-! ### tuples, != with equal items -/
section
open PySem.SeqAt MeetsSeq MeetsSeq2 MeetsSeq3 SeqRoads2
open AutoSeq1 (wpAny_loadPart')
variable {prog : Program} {w : World} {A : Around} {R : Result → Shared → Prop}
theorem tuple_neG (l b : Addr) (items items2 : Array Value) (n n2 : Nat) (dd dd2 : Option Addr) (sl sl2 : Array (Option Value)) (hsz : items.size = items2.size) (I : Shared → Prop)
    (turn : ∀ i (h1 : i < items.size) (h2 : i < items2.size) s, I s → wpAny (model prog w) A.in1 (eqBool items[i] items2[i]) (fun r s' => r = true ∧ I s') (fun e s' => R (.error e) s') s)
    (fin : ∀ s, I s → R (.ok (.ret (.bool false))) s) {s : Shared} (hl1 : s.heap.get? l = some { cls := .type "tuple", dict := dd, data := .seq items n, slots := sl }) (hb1 : s.heap.get? b = some { cls := .type "tuple", dict := dd2, data := .seq items2 n2, slots := sl2 }) (h : I s) :
    wpAny (model prog w) A.in1 (Builtin.«tuple.__ne__» ⟨[.ref l, .ref b], []⟩) (GQ.FinOf prog w A R) (fun e s' => R (.error e) s') s := by
  have f2 := AutoSeq1.sub_tuple_tuple
  have hZ : (items.toList.zip items2.toList).length = items.size := by simp [hsz]
  have h0 := h
  obtain ⟨hp, g, d, tk, os⟩ := s
  wp_walk using wpAny_loadPart' hl1, wpAny_loadPart' hb1, wpAny_forIn_list _ (fun rest b s' => b.1 = none ∧ ∃ i, rest = (items.toList.zip items2.toList).drop i ∧ i ≤ items.size ∧ I s') _
  case turn =>
    rintro ⟨y, x⟩ rest b s' ⟨hb', i, hz, hi, hI⟩
    have hlt : i < (items.toList.zip items2.toList).length := by
      rcases Nat.lt_or_ge i (items.toList.zip items2.toList).length with h' | h'
      · exact h'
      · rw [List.drop_of_length_le h'] at hz; cases hz
    have h1 : i < items.size := hZ ▸ hlt
    have h2 : i < items2.size := hsz ▸ h1
    rw [List.drop_eq_getElem_cons hlt] at hz
    injection hz with hyx hrest
    have hy : y = items[i] := by have := congrArg Prod.fst hyx; simpa using this
    have hx : x = items2[i] := by have := congrArg Prod.snd hyx; simpa using this
    subst hy hx
    refine wpAny_bind (wpAny_mono (turn i h1 h2 s' hI) (fun r s2 q2 => ?_) fun _ _ x => x)
    obtain ⟨hr, q2⟩ := q2
    subst hr
    wp_walk
    exact ⟨rfl, i + 1, hrest, h1, q2⟩
  case fin =>
    rintro ⟨b1, b2⟩ s' ⟨hb', i, hz, hi, hI⟩
    simp only at hb'
    subst hb'
    have hR : R (.ok (.ret (.bool false))) s' := fin s' hI
    wp_walk
    simpa [Builtin.Tuple.tupleCompareSizes, hsz] using hR
  case h =>
    exact ⟨rfl, 0, rfl, Nat.zero_le _, h0⟩
theorem rc_tupN {E : Value → Shared → Prop} {s : Shared} {l b : Addr} {items items2 : Array Value} {Q : Value → Shared → Prop} (hsz : items.size = items2.size) (hu : A.units < cLine) (I : Shared → Prop)
    (hl : s.heap.IsTuple l items) (hb : s.heap.IsTuple b items2)
    (turn : ∀ i (h1 : i < items.size) (h2 : i < items2.size) s, I s → wpAny (model prog w) A.in1 (eqBool items[i] items2[i]) (fun r s' => r = true ∧ I s') E s)
    (fin : ∀ s, I s → Q (.bool false) s) (h : I s) : wpAny (model prog w) A (richCompare .NotEq (.ref l) (.ref b)) Q E s := by
  obtain ⟨⟨cls, dd, data, sl⟩, ho, hc, n, hd⟩ := id hl
  obtain ⟨⟨cls2, dd2, data2, sl2⟩, ho2, hc2, n2, hd2⟩ := id hb
  simp only at hc hd hc2 hd2
  subst hc hd hc2 hd2
  refine wpAny_richCompare_same_room (op := .NotEq) ⟨_, ho, rfl⟩ ⟨_, ho2, rfl⟩ F.slot_tuple_ne (GQ.call_here F.slot_tuple_ne ⟨_, ho, rfl⟩ F.entry_tuple_ne (F.args_tuple_ne_2 _ _) ?_) hu
  exact tuple_neG (R := wants (fun v s' => v ≠ .notImplemented ∧ Q v s') E) l b items items2 n n2 dd dd2 sl sl2 hsz I turn (fun s' q => ⟨(fun x => nomatch x), fin s' q⟩) ho ho2 h
end
section
variable {X : Cx} {n : Nat} {D : EqvB}
/-- two tuples of as many items, each two equal -/
def DTupT (K : PySem.W.Frag) (D : EqvB) : EqvB := fun x y b H => ∃ a c xs ys, x = .ref a ∧ y = .ref c ∧ SqT K H a xs ∧ SqT K H c ys ∧ xs.length = ys.length ∧ (∀ (i : Nat) x y, xs[i]? = some x → ys[i]? = some y → D x y true H) ∧ b = true
theorem rcB_tupN (h : EqB X n D) : RcB X (n + 1) .NotEq not (DTupT X.K D) := by
  intro A pins s σ H x y u v b sb I rx ry d
  obtain ⟨a, c, xs, ys, rfl, rfl, ha, hc, hl, p, rfl⟩ := d
  cases rx
  cases ry
  obtain ⟨its, r, e, z⟩ := I.tuple ha
  obtain ⟨its2, r2, e2, z2⟩ := I.tuple hc
  have hsz : its.toArray.size = its2.toArray.size := by rw [List.size_toArray, List.size_toArray, ← r.length, ← r2.length]; exact hl
  exact rc_tupN hsz sb.room.units0 (fun s' => Inv X pins σ H s') e e2 (fun i h1 h2 s' q => turnB (e := fun _ => true) h sb p r r2 i h1 h2 s' q) (fun s' q => ⟨rfl, q⟩) I
end
end Fb

namespace Fb
open PySem PySem.Spec PyProof.Rows L2
/-- a suite's if without else, both ways told by one condition -/
theorem ite_mid {c A : Prop} [Decidable c] {Rest : L2.St → Hp → Prop} {σ : L2.St} {H : Hp} (M : L2.St → Hp → Prop) (h1 : c → (∀ σ H, M σ H → Rest σ H) → A) (h2 : ¬ c → M σ H) (h3 : ∀ σ H, M σ H → Rest σ H) : if c then A else Rest σ H := by
  by_cases h : c
  · rw [if_pos h]
    exact h1 h h3
  · rw [if_neg h]
    exact h3 _ _ (h2 h)
theorem cr_sumK {X : Cx} {K : PySem.W.Frag} (hK : X.K = K) (hc : X.calm = true) : CallR X (.builtin "sum") (rSum K) := hK ▸ cr_sum hc
theorem none_back {H H' : Hp} {a p : Addr} {f : Nat} (s : Same (hid a H) (hid a H')) (w : WellAt H' a f) (h : H' p = none) : H p = none := by
  have hp : p ≠ a := w.ne h
  cases e : H p with
  | none => rfl
  | some o =>
    have := s p o (by rw [hid_ne hp]; exact e)
    rw [hid_ne hp, h] at this
    cases this
/-- a list of weights of the law's own, beside the well -/
structure WtAt (H : Hp) (a : Addr) (m : Nat) (B : Int) (f : Nat) (pw : Addr) (ns : List Int) (H' : Hp) : Prop where
  new : H pw = none
  ne : pw ≠ a
  at_ : H' pw = some (.lst (ns.map V.int))
  len : ns.length = m
  bd : ∀ x ∈ ns, 0 ≤ x ∧ x ≤ B
  same : Same (hid a H) (hid pw (hid a H'))
  well : WellAt H' a f
theorem WtAt.step {H : Hp} {a : Addr} {m : Nat} {B : Int} {f f' : Nat} {pw : Addr} {ns : List Int} {H1 H2 : Hp} (h : WtAt H a m B f pw ns H1) (s : Same (hid a H1) (hid a H2)) (w : WellAt H2 a f') : WtAt H a m B f' pw ns H2 := by
  refine ⟨h.new, h.ne, ?_, h.len, h.bd, h.same.trans (hid_mono s), w⟩
  have := s pw _ (by rw [hid_ne h.ne]; exact h.at_)
  rwa [hid_ne h.ne] at this
theorem WtAt.upB {H : Hp} {a : Addr} {m : Nat} {B B' : Int} {f : Nat} {pw : Addr} {ns : List Int} {H1 : Hp} (h : WtAt H a m B f pw ns H1) (l : B ≤ B') : WtAt H a m B' f pw ns H1 :=
  ⟨h.new, h.ne, h.at_, h.len, fun x hx => ⟨(h.bd x hx).1, Int.le_trans (h.bd x hx).2 l⟩, h.same, h.well⟩
theorem WtAt.set {H : Hp} {a : Addr} {m : Nat} {B : Int} {f : Nat} {pw : Addr} {ns : List Int} {H1 : Hp} (h : WtAt H a m B f pw ns H1) (j : Nat) {v : Int} (v0 : 0 ≤ v) (v1 : v ≤ B) : WtAt H a m B f pw (ns.set j v) (upd H1 pw (.lst ((ns.map V.int).set j (.int v)))) := by
  refine ⟨h.new, h.ne, by rw [upd_same, ← List.map_set], by rw [List.length_set, h.len], fun x hx => ?_, by rw [hid2_upd h.ne]; exact h.same, h.well.upd h.ne⟩
  rcases List.mem_or_eq_of_mem_set hx with e | e
  · exact h.bd x e
  · subst e
    exact ⟨v0, v1⟩
/-! ### heaps -/
/-- a heap as the law draws it -/
structure HeapOk (qs : List Rat) : Prop where
  nn : ∀ q ∈ qs, 0 ≤ q
  den : ∃ S : Nat, 0 < S ∧ S ≤ 1000 ∧ ∀ q ∈ qs, q.den ∣ S
  one : rsum qs = 1
theorem rsum_div (S : Int) : ∀ ns : List Int, rsum (ns.map fun x => Rat.divInt x S) = Rat.divInt ns.sum S
  | [] => by simp [rsum]
  | x :: r => by
    rw [List.map_cons, List.sum_cons, divInt_add_same, ← rsum_div S r]
    rfl
theorem sum_nn : ∀ {ns : List Int}, (∀ x ∈ ns, 0 ≤ x) → 0 ≤ ns.sum
  | [], _ => by simp
  | x :: r, h => by
    rw [List.sum_cons]
    have := h x List.mem_cons_self
    have := sum_nn (ns := r) fun y hy => h y (List.mem_cons_of_mem _ hy)
    omega
theorem sum_le {B : Int} : ∀ {ns : List Int}, (∀ x ∈ ns, x ≤ B) → ns.sum ≤ ns.length * B
  | [], _ => by simp
  | x :: r, h => by
    rw [List.sum_cons, List.length_cons]
    have := h x List.mem_cons_self
    have := sum_le (ns := r) fun y hy => h y (List.mem_cons_of_mem _ hy)
    have e : ((r.length + 1 : Nat) : Int) * B = (r.length : Int) * B + B := by
      rw [Int.natCast_add, Int.add_mul]
      simp
    rw [e]
    omega
theorem sum_ge : ∀ {ns : List Int}, (∀ x ∈ ns, 0 ≤ x) → ∀ {x : Int}, x ∈ ns → x ≤ ns.sum
  | y :: r, h, x, hx => by
    rw [List.sum_cons]
    have h0 := h y List.mem_cons_self
    have hr := sum_nn (ns := r) fun y hy => h y (List.mem_cons_of_mem _ hy)
    rcases List.mem_cons.mp hx with e | e
    · subst e
      omega
    · have := sum_ge (ns := r) (fun y hy => h y (List.mem_cons_of_mem _ hy)) e
      omega
theorem den_dvd_bot {t : Int} {S : Nat} (h : 0 < S) : (Rat.divInt t (S : Int)).den ∣ S := by
  rw [Rat.den_divInt, if_neg (by omega)]
  simp only [Int.natAbs_natCast]
  refine Nat.div_dvd_of_dvd ?_
  have := Int.gcd_dvd_left (S : Int) t
  exact Int.natCast_dvd_natCast.mp this
theorem heap_ok {ns : List Int} {B : Int} (hb : ∀ x ∈ ns, 0 ≤ x ∧ x ≤ B) (h0 : 0 < ns.sum) (hl : ns.length ≤ 12) (hB : 0 ≤ B ∧ B ≤ 60) : HeapOk (ns.map fun x => Rat.divInt x ns.sum) := by
  have hS : ((ns.sum.toNat : Nat) : Int) = ns.sum := by omega
  have le : ns.sum ≤ 1000 := by
    have := sum_le fun x hx => (hb x hx).2
    have := Int.mul_le_mul (a := (ns.length : Int)) (b := B) (c := 12) (d := 60) (by omega) hB.2 hB.1 (by decide)
    omega
  refine ⟨fun q hq => ?_, ⟨ns.sum.toNat, by omega, by omega, fun q hq => ?_⟩, ?_⟩
  · obtain ⟨x, hx, rfl⟩ := List.mem_map.mp hq
    exact (Rat.divInt_nonneg_iff_of_pos_right h0).mpr (hb x hx).1
  · obtain ⟨x, hx, rfl⟩ := List.mem_map.mp hq
    rw [← hS]
    exact den_dvd_bot (by omega)
  · rw [rsum_div, Rat.divInt_self' (by omega)]
end Fb

/-! Part A11: pairs that stand for fractions, vectors and tables of them; a list compared with []; the mathematics of filling. -/
namespace Fb
open PySem PySem.Spec PyProof.Rows L2
section
variable {X : Cx}
/-- a list against [] -/
def rNil (K : PySem.W.Frag) (g : Bool → Bool) : R2 := fun x y H Q => ∃ a c xs, x = .ref a ∧ y = .ref c ∧ SqL K H a xs ∧ SqL K H c [] ∧ Q (.bl (g xs.isEmpty)) H
theorem op_eqNil (hu : X.A.units < cLine) : OpR X (compareOp .Eq) (rNil X.K id) := by
  intro pins s σ H x y v u Q I rx ry h
  obtain ⟨a, c, xs, rfl, rfl, ha, hc, q⟩ := h
  cases rx
  cases ry
  obtain ⟨its, r, hl, _⟩ := I.list ha
  obtain ⟨its2, r2, hl2, _⟩ := I.list hc
  cases r2
  show wpAny (model X.prog X.w) X.A (richCompare .Eq (.ref a) (.ref c)) (EP X pins σ Q) X.xe s
  cases r with
  | nil => exact SeqAt.RcAt.lists (e := fun _ => true) hl.isList hl2.isList rfl hu (fun j h => absurd h (by simp)) X.prog X.w X.xe _ ⟨.bl true, H, I, rfl, q⟩
  | cons _ _ => exact SeqAt.RcAt.lists_lengths hl.isList hl2.isList (by simp) hu X.prog X.w X.xe _ ⟨.bl false, H, I, rfl, q⟩
theorem op_neNil (hu : X.A.units < cLine) : OpR X (compareOp .NotEq) (rNil X.K not) := by
  intro pins s σ H x y v u Q I rx ry h
  obtain ⟨a, c, xs, rfl, rfl, ha, hc, q⟩ := h
  cases rx
  cases ry
  obtain ⟨its, r, hl, _⟩ := I.list ha
  obtain ⟨its2, r2, hl2, _⟩ := I.list hc
  cases r2
  show wpAny (model X.prog X.w) X.A (richCompare .NotEq (.ref a) (.ref c)) (EP X pins σ Q) X.xe s
  cases r with
  | nil => exact SeqAt.RcNeAt.lists (e := fun _ => true) hl.isList hl2.isList rfl hu (fun j h => absurd h (by simp)) X.prog X.w X.xe _ ⟨.bl false, H, I, rfl, q⟩
  | cons _ _ => exact SeqAt.RcNeAt.lists_lengths hl.isList hl2.isList (by simp) hu X.prog X.w X.xe _ ⟨.bl true, H, I, rfl, q⟩
theorem op_eqNilK {K : PySem.W.Frag} (hK : X.K = K) (hu : X.A.units < cLine) : OpR X (compareOp .Eq) (rNil K id) := hK ▸ op_eqNil hu
end
/-! ### pairs -/
def IsPr (H : Hp) (v : V) (q : Rat) : Prop := IsTup2 H v q.num (q.den : Int)
theorem IsPr.mono {H H' : Hp} {v : V} {q : Rat} (h : IsPr H v q) (s : Same H H') : IsPr H' v q := IsTup2.mono h s
def IsPrs (H : Hp) (v : V) (qs : List Rat) : Prop := ∃ p vs, v = .ref p ∧ H p = some (.lst vs) ∧ AllAre (IsPr H) vs qs
theorem IsPrs.mono {H H' : Hp} {v : V} {qs : List Rat} (h : IsPrs H v qs) (s : Same H H') : IsPrs H' v qs := by
  obtain ⟨p, vs, e, h, a⟩ := h
  exact ⟨p, vs, e, s _ _ h, a.imp fun _ _ r => r.mono s⟩
/-- tuples stay -/
def TS (H H' : Hp) : Prop := ∀ p xs, H p = some (.tup xs) → H' p = some (.tup xs)
theorem TS.rfl' {H : Hp} : TS H H := fun _ _ h => h
theorem TS.trans {H H1 H2 : Hp} (a : TS H H1) (b : TS H1 H2) : TS H H2 := fun p xs h => b p xs (a p xs h)
theorem TS.same {H H' : Hp} (s : Same H H') : TS H H' := fun p xs h => s p _ h
theorem TS.well {H H' : Hp} {a : Addr} {n : Nat} (w : WellAt H a n) (s : Same (hid a H) (hid a H')) : TS H H' := fun p xs h => hid_same _ _ (s p _ (hid_keep w h (fun _ => nofun)))
theorem TS.lst {H : Hp} {p : Addr} {ys : List V} {o : HO} (h : H p = some (.lst ys)) : TS H (upd H p o) := fun b xs e => by
  rw [upd_ne (fun z => by rw [z, h] at e; cases e)]
  exact e
theorem IsPr.ts {H H' : Hp} {v : V} {q : Rat} (h : IsPr H v q) (s : TS H H') : IsPr H' v q := by
  obtain ⟨p, e, h⟩ := h
  exact ⟨p, e, s _ _ h⟩
theorem IsTup2.ts {H H' : Hp} {v : V} {t b : Int} (h : IsTup2 H v t b) (s : TS H H') : IsTup2 H' v t b := by
  obtain ⟨p, e, h⟩ := h
  exact ⟨p, e, s _ _ h⟩
/-- a list of m pairs -/
def VecAt (H : Hp) (p : Addr) (m : Nat) (h : Nat → Rat) : Prop := ∃ vs, H p = some (.lst vs) ∧ vs.length = m ∧ ∀ (i : Nat) v, vs[i]? = some v → IsPr H v (h i)
theorem VecAt.ts {H H' : Hp} {p : Addr} {m : Nat} {h : Nat → Rat} (v : VecAt H p m h) (s : TS H H') (e : H' p = H p) : VecAt H' p m h := by
  obtain ⟨vs, ev, l, r⟩ := v
  exact ⟨vs, by rw [e]; exact ev, l, fun i v hv => (r i v hv).ts s⟩
theorem VecAt.at {H : Hp} {p : Addr} {m : Nat} {h : Nat → Rat} (v : VecAt H p m h) {j : Nat} (hj : j < m) : ∃ vs x, H p = some (.lst vs) ∧ vs.length = m ∧ vs[j]? = some x ∧ IsPr H x (h j) := by
  obtain ⟨vs, ev, l, r⟩ := v
  have hj' : j < vs.length := by omega
  exact ⟨vs, _, ev, l, List.getElem?_eq_getElem hj', r j _ (List.getElem?_eq_getElem hj')⟩
def put (h : Nat → Rat) (j : Nat) (z : Rat) : Nat → Rat := fun i => if i = j then z else h i
theorem VecAt.set {H : Hp} {p : Addr} {m : Nat} {h : Nat → Rat} {vs : List V} {j : Nat} {x : V} {z : Rat} (v : VecAt H p m h) (e : H p = some (.lst vs)) (hx : IsPr H x z) : VecAt (upd H p (.lst (vs.set j x))) p m (put h j z) := by
  obtain ⟨vs', ev, l, r⟩ := v
  rw [e] at ev
  cases ev
  have s : TS H (upd H p (.lst (vs.set j x))) := TS.lst e
  refine ⟨_, upd_same, by rw [List.length_set, l], fun i y hy => ?_⟩
  unfold put
  rw [List.getElem?_set] at hy
  by_cases hij : j = i
  · subst hij
    rw [if_pos rfl] at hy
    rw [if_pos rfl]
    split at hy
    · cases hy
      exact hx.ts s
    · cases hy
  · rw [if_neg hij] at hy
    rw [if_neg (fun z => hij z.symm)]
    exact (r i y hy).ts s
/-! ### sums over ranges -/
def rsumN (n : Nat) (f : Nat → Rat) : Rat := rsum ((List.range n).map f)
theorem rsumN_succ (n : Nat) (f : Nat → Rat) : rsumN (n + 1) f = rsumN n f + f n := by
  unfold rsumN
  rw [List.range_succ, List.map_append, rsum_append]
  show _ + (f n + 0) = _
  rw [Rat.add_zero]
theorem rsumN_congr {n : Nat} {f g : Nat → Rat} (h : ∀ i, i < n → f i = g i) : rsumN n f = rsumN n g := by
  induction n with
  | zero => rfl
  | succ n ih => rw [rsumN_succ, rsumN_succ, ih fun i hi => h i (by omega), h n (by omega)]
theorem rsumN_add (n : Nat) (f g : Nat → Rat) : rsumN n (fun i => f i + g i) = rsumN n f + rsumN n g := by
  induction n with
  | zero => exact (Rat.add_zero 0).symm
  | succ n ih => rw [rsumN_succ, rsumN_succ, rsumN_succ, ih]; grind
theorem rsumN_zero {n : Nat} {f : Nat → Rat} (h : ∀ i, i < n → f i = 0) : rsumN n f = 0 := by
  induction n with
  | zero => rfl
  | succ n ih => rw [rsumN_succ, ih fun i hi => h i (by omega), h n (by omega), Rat.add_zero]
theorem rsumN_nn {n : Nat} {f : Nat → Rat} (h : ∀ i, i < n → 0 ≤ f i) : 0 ≤ rsumN n f := by
  induction n with
  | zero => exact Rat.le_refl
  | succ n ih =>
    rw [rsumN_succ]
    have h1 := ih fun i hi => h i (by omega)
    have h2 := h n (by omega)
    grind
theorem rsumN_ge {n : Nat} {f : Nat → Rat} (h : ∀ i, i < n → 0 ≤ f i) {j : Nat} (hj : j < n) : f j ≤ rsumN n f := by
  induction n with
  | zero => omega
  | succ n ih =>
    rw [rsumN_succ]
    have h2 := h n (by omega)
    have h3 := rsumN_nn fun i (hi : i < n) => h i (by omega)
    by_cases e : j = n
    · subst e
      grind
    · have := ih (fun i hi => h i (by omega)) (by omega)
      grind
theorem rsumN_put {n : Nat} {f : Nat → Rat} {j : Nat} {z : Rat} (hj : j < n) : rsumN n (put f j z) = rsumN n f + (z - f j) := by
  induction n with
  | zero => omega
  | succ n ih =>
    rw [rsumN_succ, rsumN_succ]
    by_cases e : j = n
    · subst e
      rw [rsumN_congr (g := f) fun i hi => by unfold put; rw [if_neg (by omega)]]
      unfold put
      rw [if_pos rfl]
      grind
    · rw [ih (by omega)]
      have : put f j z n = f n := by unfold put; rw [if_neg (fun h => e h.symm)]
      rw [this]
      grind
theorem rsumN_put' {n : Nat} {f : Nat → Rat} {j : Nat} {z : Rat} (hj : n ≤ j) : rsumN n (put f j z) = rsumN n f :=
  rsumN_congr fun i hi => by unfold put; rw [if_neg (by omega)]
theorem rsumN_swap (m k : Nat) (T : Nat → Nat → Rat) : rsumN m (fun x => rsumN k (T x)) = rsumN k fun y => rsumN m fun x => T x y := by
  induction m with
  | zero => exact (rsumN_zero fun _ _ => rfl).symm
  | succ m ih =>
    rw [rsumN_succ, ih, ← rsumN_add]
    exact rsumN_congr fun i _ => (rsumN_succ m _).symm
/-! ### bottoms -/
theorem den_sub {a b : Rat} {S : Nat} (h0 : 0 < S) (ha : a.den ∣ S) (hb : b.den ∣ S) : (a - b).den ∣ S := by
  have e : a - b = Rat.divInt (a.num * ((S / a.den : Nat) : Int) + -(b.num * ((S / b.den : Nat) : Int))) (S : Int) := by
    rw [divInt_add_same, tops_one h0 ha, ← Rat.neg_divInt, tops_one h0 hb, Rat.sub_eq_add_neg]
  rw [e]
  exact den_dvd_bot h0
theorem bd_frac {q : Rat} {S : Nat} (q0 : 0 ≤ q) (q1 : q ≤ 1) (h0 : 0 < S) (hS : S ≤ 1000000) (hd : q.den ∣ S) : Bd 21 q := by
  have h1 : q.den ≤ S := Nat.le_of_dvd h0 hd
  have n0 : 0 ≤ q.num := Rat.num_nonneg.mpr q0
  have n1 : q.num ≤ (q.den : Int) := by
    have := (Rat.le_iff q 1).mp q1
    simpa using this
  exact ⟨by omega, by omega⟩
/-! ### filling -/
structure FillM (m k : Nat) (p q : Nat → Rat) (S : Nat) (h g : Nat → Rat) (T : Nat → Nat → Rat) (sp : List (Nat × Nat)) : Prop where
  row : ∀ x, x < m → h x + rsumN k (T x) = p x
  col : ∀ y, y < k → g y + rsumN m (fun x => T x y) = q y
  h0 : ∀ x, x < m → 0 ≤ h x ∧ h x ≤ 1 ∧ (h x).den ∣ S
  g0 : ∀ y, y < k → 0 ≤ g y ∧ g y ≤ 1 ∧ (g y).den ∣ S
  t0 : ∀ x y, x < m → y < k → 0 ≤ T x y ∧ T x y ≤ 1 ∧ (T x y).den ∣ S
  done : ∀ x y, x < m → y < k → (x, y) ∉ sp → h x = 0 ∨ g y = 0
  todo : ∀ xy ∈ sp, T xy.1 xy.2 = 0
  inb : ∀ xy ∈ sp, xy.1 < m ∧ xy.2 < k
  nd : sp.Nodup
def put2 (T : Nat → Nat → Rat) (x y : Nat) (z : Rat) : Nat → Nat → Rat := fun i => if i = x then put (T x) y z else T i
theorem FillM.step {m k : Nat} {p q : Nat → Rat} {S : Nat} {h g : Nat → Rat} {T : Nat → Nat → Rat} {sp : List (Nat × Nat)} (F : FillM m k p q S h g T sp) (hS : 0 < S) {c x y : Nat} (hc : sp[c]? = some (x, y)) {z : Rat} (hz : z = if g y < h x then g y else h x) :
    FillM m k p q S (put h x (h x - z)) (put g y (g y - z)) (put2 T x y z) (sp.eraseIdx c) := by
  have hm := List.mem_of_getElem? hc
  have hx : x < m := (F.inb _ hm).1
  have hy : y < k := (F.inb _ hm).2
  have t : T x y = 0 := F.todo _ hm
  obtain ⟨l1, l2, e1, e2⟩ : ∃ l1 l2, sp = l1 ++ (x, y) :: l2 ∧ sp.eraseIdx c = l1 ++ l2 := by
    have hl := (List.getElem?_eq_some_iff.mp hc).1
    refine ⟨sp.take c, sp.drop (c + 1), ?_, List.eraseIdx_eq_take_drop_succ ..⟩
    have := (List.getElem?_eq_some_iff.mp hc).2
    rw [← this, ← List.drop_eq_getElem_cons hl, List.take_append_drop]
  have nin : (x, y) ∉ sp.eraseIdx c := by
    have nd := F.nd
    rw [e1] at nd
    rw [e2]
    have := List.nodup_append.mp nd
    have h2 := List.nodup_cons.mp this.2.1
    intro hmem
    rcases List.mem_append.mp hmem with h | h
    · exact this.2.2 _ h _ List.mem_cons_self rfl
    · exact h2.1 h
  obtain ⟨hx0, hx1, hxd⟩ := F.h0 x hx
  obtain ⟨gy0, gy1, gyd⟩ := F.g0 y hy
  have z3 : 0 ≤ z ∧ z ≤ h x ∧ z ≤ g y ∧ z.den ∣ S ∧ (h x - z = 0 ∨ g y - z = 0) := by
    subst hz
    split
    · exact ⟨gy0, by grind, by grind, gyd, .inr (by grind)⟩
    · exact ⟨hx0, by grind, by grind, hxd, .inl (by grind)⟩
  obtain ⟨z0, zh, zg, zd, zz⟩ := z3
  refine ⟨fun i hi => ?_, fun j hj => ?_, fun i hi => ?_, fun j hj => ?_, fun i j hi hj => ?_, fun i j hi' hj hn => ?_, fun xy hxy => ?_, fun xy hxy => F.inb xy (List.mem_of_mem_eraseIdx hxy), F.nd.sublist (List.eraseIdx_sublist ..)⟩
  · have := F.row i hi
    by_cases e : i = x
    · subst e
      simp only [put, put2, if_true]
      rw [rsumN_put (f := T i) (z := z) hy, t]
      grind
    · simp only [put, put2, if_neg e]
      exact this
  · have := F.col j hj
    by_cases e : j = y
    · subst e
      have e2 : (fun i => put2 T x j z i j) = put (fun i => T i j) x z := by
        funext i
        by_cases e : i = x
        · subst e
          simp [put2, put]
        · simp [put2, put, e]
      rw [e2, rsumN_put hx]
      simp only [put, if_true]
      rw [t]
      grind
    · have e2 : (fun i => put2 T x y z i j) = fun i => T i j := by
        funext i
        by_cases e' : i = x
        · subst e'
          simp [put2, put, e]
        · simp [put2, e']
      rw [e2]
      simp only [put, if_neg e]
      exact this
  · by_cases e : i = x
    · subst e
      simp only [put, if_true]
      exact ⟨by grind, by grind, den_sub hS hxd zd⟩
    · simp only [put, if_neg e]
      exact F.h0 i hi
  · by_cases e : j = y
    · subst e
      simp only [put, if_true]
      exact ⟨by grind, by grind, den_sub hS gyd zd⟩
    · simp only [put, if_neg e]
      exact F.g0 j hj
  · by_cases e : i = x
    · subst e
      by_cases e' : j = y
      · subst e'
        simp only [put2, put, if_true]
        exact ⟨z0, by grind, zd⟩
      · simp only [put2, put, if_true, if_neg e']
        exact F.t0 i j hi hj
    · simp only [put2, if_neg e]
      exact F.t0 i j hi hj
  · by_cases e : (i, j) = (x, y)
    · cases e
      simp only [put, if_true]
      exact zz
    · have hn' : (i, j) ∉ sp := fun hmem => by
        refine hn ?_
        rw [e1] at hmem
        rw [e2]
        rcases List.mem_append.mp hmem with h | h
        · exact List.mem_append_left _ h
        · rcases List.mem_cons.mp h with h | h
          · exact absurd h e
          · exact List.mem_append_right _ h
      have := F.done i j hi' hj hn'
      simp only [put]
      split <;> split <;> grind
  · have hmem := List.mem_of_mem_eraseIdx hxy
    have t' := F.todo xy hmem
    have ne : xy ≠ (x, y) := fun e => nin (e ▸ hxy)
    obtain ⟨b, d⟩ := xy
    by_cases e : b = x
    · subst e
      have e' : d ≠ y := fun e' => ne (by rw [e'])
      simp only [put2, put, if_true, if_neg e']
      exact t'
    · simp only [put2, if_neg e]
      exact t'
theorem FillM.end_ {m k : Nat} {p q : Nat → Rat} {S : Nat} {h g : Nat → Rat} {T : Nat → Nat → Rat} (F : FillM m k p q S h g T []) (hp : rsumN m p = rsumN k q) : (∀ x, x < m → rsumN k (T x) = p x) ∧ ∀ y, y < k → rsumN m (fun x => T x y) = q y := by
  have e1 : rsumN m h + rsumN m (fun x => rsumN k (T x)) = rsumN m p := by
    rw [← rsumN_add]
    exact rsumN_congr F.row
  have e2 : rsumN k g + rsumN k (fun y => rsumN m fun x => T x y) = rsumN k q := by
    rw [← rsumN_add]
    exact rsumN_congr F.col
  rw [rsumN_swap] at e1
  have e3 : rsumN m h = rsumN k g := by grind
  have hz : (∀ x, x < m → h x = 0) ∧ ∀ y, y < k → g y = 0 := by
    by_cases hh : ∀ x, x < m → h x = 0
    · refine ⟨hh, fun y hy => ?_⟩
      have z := rsumN_zero hh
      have := rsumN_ge (fun i hi => (F.g0 i hi).1) hy
      have := (F.g0 y hy).1
      rw [← e3, z] at *
      grind
    · obtain ⟨x, hx⟩ := Classical.not_forall.mp hh
      obtain ⟨hx, hne⟩ := Classical.not_imp.mp hx
      have gz : ∀ y, y < k → g y = 0 := fun y hy => (F.done x y hx hy (by simp)).resolve_left hne
      refine ⟨fun i hi => ?_, gz⟩
      have z := rsumN_zero gz
      have := rsumN_ge (fun i hi => (F.h0 i hi).1) hi
      have := (F.h0 i hi).1
      rw [e3, z] at *
      grind
  exact ⟨fun x hx => by have := F.row x hx; rw [hz.1 x hx] at this; grind, fun y hy => by have := F.col y hy; rw [hz.2 y hy] at this; grind⟩
end Fb

/-! Part A12: the state of filling a plan, on the heap. -/
namespace Fb
open PySem PySem.Spec PyProof.Rows L2
theorem nodup_inj {α : Type} {l : List α} (nd : l.Nodup) {i j : Nat} {x : α} (hi : l[i]? = some x) (hj : l[j]? = some x) : i = j := by
  obtain ⟨i1, i2⟩ := List.getElem?_eq_some_iff.mp hi
  obtain ⟨j1, j2⟩ := List.getElem?_eq_some_iff.mp hj
  have p := List.pairwise_iff_getElem.mp nd
  rcases Nat.lt_trichotomy i j with h | h | h
  · exact absurd (i2.trans j2.symm) (p i j i1 j1 h)
  · exact h
  · exact absurd (j2.trans i2.symm) (p j i j1 i1 h)
structure FillAt (H0 : Hp) (a : Addr) (f m k : Nat) (ph pw pp ps : Addr) (rs : List Addr) (h g : Nat → Rat) (T : Nat → Nat → Rat) (sp : List (Nat × Nat)) (H : Hp) : Prop where
  same : Same (hid a H0) (hid a H)
  well : WellAt H a f
  new : ∀ p ∈ ph :: pw :: pp :: ps :: rs, H0 p = none ∧ p ≠ a
  dis : (ph :: pw :: pp :: ps :: rs).Nodup
  have_ : VecAt H ph m h
  want : VecAt H pw k g
  tab : H pp = some (.lst (rs.map V.ref))
  rlen : rs.length = m
  rows : ∀ (x : Nat) r, rs[x]? = some r → VecAt H r k (T x)
  spots : ∃ sv, H ps = some (.lst sv) ∧ AllAre (fun v (xy : Nat × Nat) => IsTup2 H v (xy.1 : Int) (xy.2 : Int)) sv sp
section
variable {H0 : Hp} {a : Addr} {f f' m k : Nat} {ph pw pp ps : Addr} {rs : List Addr} {h g : Nat → Rat} {T : Nat → Nat → Rat} {sp : List (Nat × Nat)} {H H' : Hp}
/-- tuples stay and the lists of filling stay -/
theorem FillAt.keep (F : FillAt H0 a f m k ph pw pp ps rs h g T sp H) (s : Same (hid a H) (hid a H')) (w : WellAt H' a f') : FillAt H0 a f' m k ph pw pp ps rs h g T sp H' := by
  have t := TS.well F.well s
  have e : ∀ p ∈ ph :: pw :: pp :: ps :: rs, ∀ o, H p = some o → H' p = some o := fun p hp o ho => by
    have := s p o (by rw [hid_ne (F.new p hp).2]; exact ho)
    rwa [hid_ne (F.new p hp).2] at this
  have v : ∀ p ∈ ph :: pw :: pp :: ps :: rs, ∀ n d, VecAt H p n d → VecAt H' p n d := fun p hp n d hv => by
    obtain ⟨vs, ev, l, r⟩ := hv
    exact ⟨vs, e p hp _ ev, l, fun i v hv => (r i v hv).ts t⟩
  refine ⟨F.same.trans s, w, F.new, F.dis, v _ (by simp) _ _ F.have_, v _ (by simp) _ _ F.want, e _ (by simp) _ F.tab, F.rlen, fun x r hr => v r ?_ _ _ (F.rows x r hr), ?_⟩
  · have := List.mem_of_getElem? hr
    simp [this]
  · obtain ⟨sv, es, as⟩ := F.spots
    exact ⟨sv, e _ (by simp) _ es, as.imp fun _ _ r => r.ts t⟩
/-- one of the lists of filling is set -/
theorem FillAt.upd_ (F : FillAt H0 a f m k ph pw pp ps rs h g T sp H) {p : Addr} {ys : List V} {o : HO} (hp : p ∈ ph :: pw :: pp :: ps :: rs) (e : H p = some (.lst ys)) :
    Same (hid a H0) (hid a (upd H p o)) ∧ WellAt (upd H p o) a f ∧ TS H (upd H p o) := by
  obtain ⟨n0, na⟩ := F.new p hp
  refine ⟨fun b u eb => ?_, F.well.upd na, TS.lst e⟩
  have hb : b ≠ p := fun z => by
    rw [z, hid_ne na, n0] at eb
    cases eb
  rw [hid_updN na, upd_ne hb]
  exact F.same b u eb
theorem FillAt.setH (F : FillAt H0 a f m k ph pw pp ps rs h g T sp H) {vs : List V} {j : Nat} {x : V} {z : Rat} (e : H ph = some (.lst vs)) (hx : IsPr H x z) : FillAt H0 a f m k ph pw pp ps rs (put h j z) g T sp (upd H ph (.lst (vs.set j x))) := by
  obtain ⟨s, w, t⟩ := F.upd_ (o := .lst (vs.set j x)) (by simp) e
  have d := List.nodup_cons.mp F.dis
  have ne : ∀ q ∈ pw :: pp :: ps :: rs, q ≠ ph := fun q hq z => d.1 (z ▸ hq)
  refine ⟨s, w, F.new, F.dis, F.have_.set e hx, F.want.ts t (upd_ne (ne _ (by simp))), by rw [upd_ne (ne _ (by simp))]; exact F.tab, F.rlen, fun x r hr => (F.rows x r hr).ts t (upd_ne (ne _ ?_)), ?_⟩
  · have := List.mem_of_getElem? hr
    simp [this]
  · obtain ⟨sv, es, as⟩ := F.spots
    exact ⟨sv, by rw [upd_ne (ne _ (by simp))]; exact es, as.imp fun _ _ r => r.ts t⟩
theorem FillAt.setW (F : FillAt H0 a f m k ph pw pp ps rs h g T sp H) {vs : List V} {j : Nat} {x : V} {z : Rat} (e : H pw = some (.lst vs)) (hx : IsPr H x z) : FillAt H0 a f m k ph pw pp ps rs h (put g j z) T sp (upd H pw (.lst (vs.set j x))) := by
  obtain ⟨s, w, t⟩ := F.upd_ (o := .lst (vs.set j x)) (by simp) e
  have d0 := List.nodup_cons.mp F.dis
  have d := List.nodup_cons.mp d0.2
  have ne : ∀ q ∈ pp :: ps :: rs, q ≠ pw := fun q hq z => d.1 (z ▸ hq)
  have ne0 : ph ≠ pw := fun z => d0.1 (by simp [z])
  refine ⟨s, w, F.new, F.dis, F.have_.ts t (upd_ne ne0), F.want.set e hx, by rw [upd_ne (ne _ (by simp))]; exact F.tab, F.rlen, fun x r hr => (F.rows x r hr).ts t (upd_ne (ne _ ?_)), ?_⟩
  · have := List.mem_of_getElem? hr
    simp [this]
  · obtain ⟨sv, es, as⟩ := F.spots
    exact ⟨sv, by rw [upd_ne (ne _ (by simp))]; exact es, as.imp fun _ _ r => r.ts t⟩
theorem FillAt.setR (F : FillAt H0 a f m k ph pw pp ps rs h g T sp H) {r : Addr} {vs : List V} {x y : Nat} {v : V} {z : Rat} (hr : rs[x]? = some r) (e : H r = some (.lst vs)) (hx : IsPr H v z) : FillAt H0 a f m k ph pw pp ps rs h g (put2 T x y z) sp (upd H r (.lst (vs.set y v))) := by
  have hm := List.mem_of_getElem? hr
  obtain ⟨s, w, t⟩ := F.upd_ (o := .lst (vs.set y v)) (by simp [hm]) e
  have d := F.dis
  simp only [List.nodup_cons, List.mem_cons, not_or] at d
  have n1 : ph ≠ r := fun z => d.1.2.2.2 (z ▸ hm)
  have n2 : pw ≠ r := fun z => d.2.1.2.2 (z ▸ hm)
  have n3 : pp ≠ r := fun z => d.2.2.1.2 (z ▸ hm)
  have n4 : ps ≠ r := fun z => d.2.2.2.1 (z ▸ hm)
  refine ⟨s, w, F.new, F.dis, F.have_.ts t (upd_ne n1), F.want.ts t (upd_ne n2), by rw [upd_ne n3]; exact F.tab, F.rlen, fun x' r' hr' => ?_, ?_⟩
  · by_cases ex : x' = x
    · subst ex
      rw [hr] at hr'
      cases hr'
      have := (F.rows x' r hr).set (j := y) e hx
      simpa [put2] using this
    · have hne : r' ≠ r := fun z => by
        have nd := d.2.2.2.2
        exact ex (nodup_inj nd hr' (z ▸ hr))
      simp only [put2, if_neg ex]
      exact (F.rows x' r' hr').ts t (upd_ne hne)
  · obtain ⟨sv, es, as⟩ := F.spots
    exact ⟨sv, by rw [upd_ne n4]; exact es, as.imp fun _ _ r => r.ts t⟩
theorem AllAre.erase {α : Type} {R : V → α → Prop} {vs : List V} {xs : List α} (h : AllAre R vs xs) (n : Nat) : AllAre R (vs.eraseIdx n) (xs.eraseIdx n) := by
  rw [List.eraseIdx_eq_take_drop_succ, List.eraseIdx_eq_take_drop_succ]
  exact (h.take n).append (h.drop (n + 1))
theorem FillAt.pop (F : FillAt H0 a f m k ph pw pp ps rs h g T sp H) {sv : List V} {j : Nat} (e : H ps = some (.lst sv)) : FillAt H0 a f m k ph pw pp ps rs h g T (sp.eraseIdx j) (upd H ps (.lst (sv.eraseIdx j))) := by
  obtain ⟨s, w, t⟩ := F.upd_ (o := .lst (sv.eraseIdx j)) (by simp) e
  have d := F.dis
  simp only [List.nodup_cons, List.mem_cons, not_or] at d
  have n1 : ph ≠ ps := d.1.2.2.1
  have n2 : pw ≠ ps := d.2.1.2.1
  have n3 : pp ≠ ps := d.2.2.1.1
  refine ⟨s, w, F.new, F.dis, F.have_.ts t (upd_ne n1), F.want.ts t (upd_ne n2), by rw [upd_ne n3]; exact F.tab, F.rlen, fun x' r' hr' => (F.rows x' r' hr').ts t (upd_ne fun z => d.2.2.2.1 (z ▸ List.mem_of_getElem? hr')), ?_⟩
  obtain ⟨sv', es, as⟩ := F.spots
  rw [e] at es
  cases es
  exact ⟨_, upd_same, (as.erase j).imp fun _ _ r => r.ts t⟩
end
/-- the plan that is told -/
structure PlanOk (m k : Nat) (p q : Nat → Rat) (T : Nat → Nat → Rat) : Prop where
  row : ∀ x, x < m → rsumN k (T x) = p x
  col : ∀ y, y < k → rsumN m (fun x => T x y) = q y
  t0 : ∀ x y, x < m → y < k → 0 ≤ T x y ∧ Bd 21 (T x y)
  den : ∃ S : Nat, 0 < S ∧ S ≤ 1000000 ∧ ∀ x y, x < m → y < k → T x y ≤ 1 ∧ (T x y).den ∣ S
end Fb

/-! Part A13: comprehensions that make rows; lists and functions. -/
namespace Fb
open PySem PySem.Spec PyProof.Rows L2
theorem pi_listK {X : Cx} {K : PySem.W.Frag} {tg l : Expr} {tl : TE} (hK : X.K = K) (hl : PE X l tl) : PI X tg l (iList K tl) := hK ▸ pi_list hl
theorem VecAt.same {H H' : Hp} {p : Addr} {m : Nat} {h : Nat → Rat} (v : VecAt H p m h) (s : Same H H') : VecAt H' p m h := by
  obtain ⟨vs, ev, l, r⟩ := v
  exact ⟨vs, s _ _ ev, l, fun i v hv => (r i v hv).mono s⟩
theorem lc_rows {K : PySem.W.Frag} {a : Addr} {xs : List V} {g : TG} {te : TE} {vs : List Nat} {σ : L2.St} {H1 : Hp} {D : Addr} {Qd : Hp → Prop} (k : Nat) (f : Nat → Rat)
    (hD : H1 D = none) (hS : SqL K H1 a xs) (hz : xs.length ≤ 1000)
    (hs : ∀ (i : Nat) x H (kk : V → Hp → Prop), xs[i]? = some x → Same H1 H → (∀ r H4, H r = none → Same H H4 → VecAt H4 r k f → kk (.ref r) H4) → g x (wipe σ vs) H fun σ2 H2 => wipe σ2 vs = wipe σ vs ∧ te σ2 H2 kk)
    (hd : ∀ H rs, Same H1 (hid D H) → H D = some (.lst (rs.map V.ref)) → rs.length = xs.length → (D :: rs).Nodup → (∀ r ∈ rs, H1 r = none ∧ VecAt H r k f) → Qd H) :
    ∃ W : Nat → Nat → Hp → Prop, (∃ m, W 0 m (upd H1 D (.lst []))) ∧ ∀ i m H, W i m H →
      ((Itl K a).stop i H ∧ Qd H) ∨ ((Itl K a).go i H ∧ ∃ Nx : Hp → Prop, (∀ H', Nx H' → ∃ m', m' < m ∧ W (i + 1) m' H') ∧ ∀ x H', (Itl K a).yld i H x H' → g x (wipe σ vs) H' fun σ2 H2 => wipe σ2 vs = wipe σ vs ∧ tYes σ2 H2 fun b H3 =>
        if b = true then te σ2 H3 fun y H4 => ∃ acc, H4 D = some (.lst acc) ∧ acc.length < sizeLine ∧ Nx (upd H4 D (.lst (acc ++ [y]))) else Nx H3) := by
  refine lc_list (xs := xs) (fun i H => ∃ rs : List Addr, Same H1 (hid D H) ∧ H D = some (.lst (rs.map V.ref)) ∧ rs.length = i ∧ (D :: rs).Nodup ∧ ∀ r ∈ rs, H1 r = none ∧ VecAt H r k f) ⟨[], ?_, upd_same, rfl, by simp, fun r h => by simp at h⟩ (fun i H _ h => ?_) (fun i x H hx h => ?_) (fun H h => ?_)
  · intro b o e
    rw [hid_ne (ne_of_none e hD), upd_ne (ne_of_none e hD)]
    exact e
  · obtain ⟨rs, s, _⟩ := h
    exact (s.trans hid_same).seq hS
  · obtain ⟨rs, s, e, l, nd, r⟩ := h
    have hi : i < xs.length := (List.getElem?_eq_some_iff.mp hx).1
    refine hs i x H (fun y H4 => ∃ acc, H4 D = some (.lst acc) ∧ acc.length < sizeLine ∧ ∃ rs : List Addr, Same H1 (hid D (upd H4 D (.lst (acc ++ [y])))) ∧ (upd H4 D (.lst (acc ++ [y]))) D = some (.lst (rs.map V.ref)) ∧ rs.length = i + 1 ∧ (D :: rs).Nodup ∧ ∀ r ∈ rs, H1 r = none ∧ VecAt (upd H4 D (.lst (acc ++ [y]))) r k f) hx (s.trans hid_same) fun q H4 nq s4 vq => ?_
    have e4 := s4 _ _ e
    have qD : q ≠ D := fun z => by rw [z, e] at nq; cases nq
    have up : ∀ r', r' ≠ D → VecAt H4 r' k f → VecAt (upd H4 D (.lst (rs.map V.ref ++ [.ref q]))) r' k f := fun r' hr v => v.ts (TS.lst e4) (upd_ne hr)
    refine ⟨_, e4, small1000 (by rw [List.length_map]; omega), rs ++ [q], ?_, by rw [upd_same]; simp, by simp [l], ?_, fun r' hr' => ?_⟩
    · rw [hid_upd]
      exact s.trans (hid_mono s4)
    · have n1 := List.nodup_cons.mp nd
      refine List.nodup_cons.mpr ⟨?_, ?_⟩
      · simp only [List.mem_append, List.mem_singleton, not_or]
        exact ⟨n1.1, fun z => qD z.symm⟩
      · refine List.nodup_append.mpr ⟨n1.2, by simp, fun x hx y hy => ?_⟩
        have : y = q := by simpa using hy
        subst this
        intro z
        obtain ⟨vs', ev, _⟩ := (r x hx).2
        rw [z, nq] at ev
        cases ev
    · rcases List.mem_append.mp hr' with h | h
      · have n1 := List.nodup_cons.mp nd
        exact ⟨(r r' h).1, up r' (fun z => n1.1 (z ▸ h)) ((r r' h).2.same s4)⟩
      · have : r' = q := by simpa using h
        subst this
        refine ⟨?_, up _ qD vq⟩
        cases e' : H1 r' with
        | none => rfl
        | some o =>
          have := hid_same _ _ (s _ _ e')
          rw [nq] at this
          cases this
  · obtain ⟨rs, s, e, l, nd, r⟩ := h
    exact hd H rs s e l nd r
/-- [e for x in range(..)] that only makes -/
theorem lc_allR {lo : Int} {n : Nat} {g : TG} {te : TE} {vs : List Nat} {σ : L2.St} {H1 : Hp} {D : Addr} {Qd : Hp → Prop} (R : Nat → V → Hp → Prop) (mono : ∀ i v H H', Same H H' → R i v H → R i v H')
    (hD : H1 D = none) (hz : n ≤ 1000)
    (hs : ∀ i H (k : V → Hp → Prop), i < n → Same H1 (hid D H) → (∃ ys, H D = some (.lst ys)) → (∀ y H4, Same H H4 → R i y (hid D H4) → k y H4) → g (.int (lo + i)) (wipe σ vs) H fun σ2 H2 => wipe σ2 vs = wipe σ vs ∧ te σ2 H2 k)
    (hd : ∀ H ys, Same H1 (hid D H) → H D = some (.lst ys) → ys.length = n → (∀ i y, ys[i]? = some y → R i y (hid D H)) → Qd H) :
    ∃ W : Nat → Nat → Hp → Prop, (∃ m, W 0 m (upd H1 D (.lst []))) ∧ ∀ i m H, W i m H →
      ((Itr lo n).stop i H ∧ Qd H) ∨ ((Itr lo n).go i H ∧ ∃ Nx : Hp → Prop, (∀ H', Nx H' → ∃ m', m' < m ∧ W (i + 1) m' H') ∧ ∀ x H', (Itr lo n).yld i H x H' → g x (wipe σ vs) H' fun σ2 H2 => wipe σ2 vs = wipe σ vs ∧ tYes σ2 H2 fun b H3 =>
        if b = true then te σ2 H3 fun y H4 => ∃ acc, H4 D = some (.lst acc) ∧ acc.length < sizeLine ∧ Nx (upd H4 D (.lst (acc ++ [y]))) else Nx H3) := by
  refine lc_range (fun i H => ∃ ys, Same H1 (hid D H) ∧ H D = some (.lst ys) ∧ ys.length = i ∧ ∀ j y, ys[j]? = some y → R j y (hid D H)) ⟨[], ?_, upd_same, rfl, fun j y h => by simp at h⟩ (fun i H hi h => ?_) (fun H h => ?_)
  · intro b o e
    rw [hid_ne (ne_of_none e hD), upd_ne (ne_of_none e hD)]
    exact e
  · obtain ⟨ys, s, e, l, r⟩ := h
    refine hs i H (fun y H4 => ∃ acc, H4 D = some (.lst acc) ∧ acc.length < sizeLine ∧ ∃ ys, Same H1 (hid D (upd H4 D (.lst (acc ++ [y])))) ∧ (upd H4 D (.lst (acc ++ [y]))) D = some (.lst ys) ∧ ys.length = i + 1 ∧ ∀ j y', ys[j]? = some y' → R j y' (hid D (upd H4 D (.lst (acc ++ [y]))))) hi s ⟨_, e⟩ fun y H4 s4 ry => ?_
    refine ⟨ys, s4 _ _ e, small1000 (by omega), ys ++ [y], ?_, upd_same, by simp [l], fun j y' h => ?_⟩
    · rw [hid_upd]
      exact s.trans (hid_mono s4)
    · rw [hid_upd]
      by_cases hj : j < ys.length
      · rw [List.getElem?_append_left hj] at h
        exact mono _ _ _ _ (hid_mono s4) (r j y' h)
      · rw [List.getElem?_append_right (by omega)] at h
        have hj2 : j - ys.length = 0 := by
          have := (List.getElem?_eq_some_iff.mp h).1
          simp at this
          omega
        rw [hj2] at h
        simp at h
        subst h
        have : j = i := by omega
        rw [this]
        exact ry
  · obtain ⟨ys, s, e, l, r⟩ := h
    exact hd H ys s e l r
/-! ### lists and functions -/
def at0 (l : List Rat) (i : Nat) : Rat := l.getD i 0
theorem at0_of {l : List Rat} {i : Nat} {z : Rat} (h : l[i]? = some z) : at0 l i = z := by
  unfold at0
  rw [List.getD_eq_getElem?_getD, h]
  rfl
theorem at0_mem {l : List Rat} {i : Nat} (h : i < l.length) : at0 l i ∈ l := by
  rw [at0_of (List.getElem?_eq_getElem h)]
  exact List.getElem_mem h
theorem rsumN_at0 (l : List Rat) : rsumN l.length (at0 l) = rsum l := by
  unfold rsumN
  congr 1
  refine List.ext_getElem (by simp) fun i h1 h2 => ?_
  simp only [List.getElem_map, List.getElem_range]
  exact at0_of (List.getElem?_eq_getElem h2)
theorem IsPrs.vec {H : Hp} {p : Addr} {qs : List Rat} (h : IsPrs H (.ref p) qs) : VecAt H p qs.length (at0 qs) := by
  obtain ⟨p', vs, e, h, a⟩ := h
  cases e
  refine ⟨vs, h, a.1, fun i v hv => ?_⟩
  obtain ⟨z, hz, r⟩ := a.at hv
  rw [at0_of hz]
  exact r
theorem VecAt.prs {H : Hp} {p : Addr} {m : Nat} {f : Nat → Rat} (v : VecAt H p m f) : IsPrs H (.ref p) ((List.range m).map f) := by
  obtain ⟨vs, e, l, r⟩ := v
  refine ⟨p, vs, rfl, e, .of_ix (by simp [l]) fun i y hy => ⟨f i, ?_, r i y hy⟩⟩
  have hi := (List.getElem?_eq_some_iff.mp hy).1
  rw [List.getElem?_map, List.getElem?_range (by omega)]
  rfl
/-- the spots of filling, row by row -/
def spotsTo (k : Nat) : Nat → List (Nat × Nat)
  | 0 => []
  | x + 1 => spotsTo k x ++ (List.range k).map fun y => (x, y)
theorem spotsTo_len (k : Nat) : ∀ m, (spotsTo k m).length = m * k
  | 0 => by simp [spotsTo]
  | m + 1 => by
    rw [spotsTo, List.length_append, spotsTo_len k m, List.length_map, List.length_range, Nat.succ_mul]
theorem spotsTo_mem {k x y : Nat} : ∀ {m : Nat}, (x, y) ∈ spotsTo k m ↔ x < m ∧ y < k
  | 0 => by simp [spotsTo]
  | m + 1 => by
    rw [spotsTo, List.mem_append, spotsTo_mem, List.mem_map]
    simp only [List.mem_range, Prod.mk.injEq]
    constructor
    · rintro (h | ⟨y', h1, h2, h3⟩)
      · omega
      · omega
    · intro h
      by_cases e : x < m
      · exact .inl ⟨e, h.2⟩
      · exact .inr ⟨y, h.2, by omega, rfl⟩
theorem spotsTo_nodup (k : Nat) : ∀ m, (spotsTo k m).Nodup
  | 0 => by simp [spotsTo]
  | m + 1 => by
    rw [spotsTo]
    refine List.nodup_append.mpr ⟨spotsTo_nodup k m, ?_, fun a ha b hb => ?_⟩
    · refine List.pairwise_map.mpr (List.Pairwise.imp (fun h z => h ?_) List.nodup_range)
      simpa using z
    · obtain ⟨x, y⟩ := a
      have h1 := spotsTo_mem.mp ha
      obtain ⟨y', _, rfl⟩ := List.mem_map.mp hb
      intro z
      cases z
      omega
theorem heap_le1 {l : List Rat} (h : HeapOk l) {q : Rat} (hq : q ∈ l) : q ≤ 1 := by
  obtain ⟨i, hi, e⟩ := List.mem_iff_getElem.mp hq
  have := rsumN_ge (n := l.length) (f := at0 l) (fun j hj => h.nn _ (at0_mem hj)) hi
  rw [rsumN_at0, h.one, at0_of (List.getElem?_eq_getElem hi), e] at this
  exact this
theorem FillM.start {pl ql : List Rat} (hp : HeapOk pl) (hq : HeapOk ql) : ∃ S : Nat, 0 < S ∧ S ≤ 1000000 ∧ FillM pl.length ql.length (at0 pl) (at0 ql) S (at0 pl) (at0 ql) (fun _ _ => 0) (spotsTo ql.length pl.length) := by
  obtain ⟨S1, a1, a2, a3⟩ := hp.den
  obtain ⟨S2, b1, b2, b3⟩ := hq.den
  refine ⟨S1 * S2, Nat.mul_pos a1 b1, Nat.mul_le_mul a2 b2, fun x _ => ?_, fun y _ => ?_, fun x hx => ?_, fun y hy => ?_, fun _ _ _ _ => ?_, fun x y hx hy hn => absurd (spotsTo_mem.mpr ⟨hx, hy⟩) hn, fun _ _ => rfl, fun xy h => spotsTo_mem.mp h, spotsTo_nodup _ _⟩
  · rw [rsumN_zero fun _ _ => rfl, Rat.add_zero]
  · rw [rsumN_zero fun _ _ => rfl, Rat.add_zero]
  · have := at0_mem hx
    exact ⟨hp.nn _ this, heap_le1 hp this, Nat.dvd_trans (a3 _ this) (Nat.dvd_mul_right _ _)⟩
  · have := at0_mem hy
    exact ⟨hq.nn _ this, heap_le1 hq this, Nat.dvd_trans (b3 _ this) (Nat.dvd_mul_left _ _)⟩
  · exact ⟨Rat.le_refl, by decide, Nat.one_dvd _⟩
theorem FillAt.ext {H0 : Hp} {a : Addr} {f m k : Nat} {ph pw pp ps : Addr} {rs : List Addr} {h g : Nat → Rat} {T : Nat → Nat → Rat} {sp more : List (Nat × Nat)} {H : Hp} (F : FillAt H0 a f m k ph pw pp ps rs h g T sp H) {sv ys : List V} (e : H ps = some (.lst sv)) (hy : AllAre (fun v (xy : Nat × Nat) => IsTup2 H v (xy.1 : Int) (xy.2 : Int)) ys more) :
    FillAt H0 a f m k ph pw pp ps rs h g T (sp ++ more) (upd H ps (.lst (sv ++ ys))) := by
  obtain ⟨s, w, t⟩ := F.upd_ (o := .lst (sv ++ ys)) (by simp) e
  have d := F.dis
  simp only [List.nodup_cons, List.mem_cons, not_or] at d
  have n1 : ph ≠ ps := d.1.2.2.1
  have n2 : pw ≠ ps := d.2.1.2.1
  have n3 : pp ≠ ps := d.2.2.1.1
  refine ⟨s, w, F.new, F.dis, F.have_.ts t (upd_ne n1), F.want.ts t (upd_ne n2), by rw [upd_ne n3]; exact F.tab, F.rlen, fun x' r' hr' => (F.rows x' r' hr').ts t (upd_ne fun z => d.2.2.2.1 (z ▸ List.mem_of_getElem? hr')), ?_⟩
  obtain ⟨sv', es, as⟩ := F.spots
  rw [e] at es
  cases es
  exact ⟨_, upd_same, (as.append hy).imp fun _ _ r => r.ts t⟩
end Fb

/-! Part A14: filters of lists, suites with one end. -/
namespace Fb
open PySem PySem.Spec PyProof.Rows L2
theorem seq_fin {t u : L2.TS} {D : Ends} {σ : L2.St} {H : Hp} (M : L2.St → Hp → Prop) (h2 : ∀ σ H, M σ H → u D σ H) (h1 : (∀ σ H, M σ H → u D σ H) → t { D with nx := u D } σ H) : tSeq t u D σ H := h1 h2
/-- [e for x in xs if ..]: whether something is left -/
theorem lc_some {K : PySem.W.Frag} {a : Addr} {xs : List V} {g : TG} {tt : TT} {te : TE} {vs : List Nat} {σ : L2.St} {H1 : Hp} {D : Addr} {Qd : Hp → Prop} (t : Nat → Bool)
    (hD : H1 D = none) (hS : SqL K H1 a xs) (hz : xs.length ≤ 1000)
    (hs : ∀ (i : Nat) x H (kt : V → Hp → Prop) (kf : Hp → Prop), xs[i]? = some x → Same H1 H → (t i = true → ∀ y H4, Same H H4 → kt y H4) → (t i = false → ∀ H4, Same H H4 → kf H4) →
      g x (wipe σ vs) H fun σ2 H2 => wipe σ2 vs = wipe σ vs ∧ tt σ2 H2 fun b H3 => if b = true then te σ2 H3 kt else kf H3)
    (hd : ∀ H ys, Same H1 (hid D H) → H D = some (.lst ys) → ys.isEmpty = (List.range xs.length).all (fun i => !t i) → Qd H) :
    ∃ W : Nat → Nat → Hp → Prop, (∃ m, W 0 m (upd H1 D (.lst []))) ∧ ∀ i m H, W i m H →
      ((Itl K a).stop i H ∧ Qd H) ∨ ((Itl K a).go i H ∧ ∃ Nx : Hp → Prop, (∀ H', Nx H' → ∃ m', m' < m ∧ W (i + 1) m' H') ∧ ∀ x H', (Itl K a).yld i H x H' → g x (wipe σ vs) H' fun σ2 H2 => wipe σ2 vs = wipe σ vs ∧ tt σ2 H2 fun b H3 =>
        if b = true then te σ2 H3 fun y H4 => ∃ acc, H4 D = some (.lst acc) ∧ acc.length < sizeLine ∧ Nx (upd H4 D (.lst (acc ++ [y]))) else Nx H3) := by
  have ra : ∀ i, (List.range (i + 1)).all (fun i => !t i) = ((List.range i).all (fun i => !t i) && !t i) := fun i => by
    rw [List.range_succ, List.all_append]
    simp
  refine lc_list (xs := xs) (fun i H => ∃ ys, Same H1 (hid D H) ∧ H D = some (.lst ys) ∧ ys.length ≤ i ∧ ys.isEmpty = (List.range i).all (fun i => !t i)) ⟨[], ?_, upd_same, Nat.zero_le _, rfl⟩ (fun i H _ h => ?_) (fun i x H hx h => ?_) (fun H h => ?_)
  · intro b o e
    rw [hid_ne (ne_of_none e hD), upd_ne (ne_of_none e hD)]
    exact e
  · obtain ⟨ys, s, _⟩ := h
    exact (s.trans hid_same).seq hS
  · obtain ⟨ys, s, e, l, r⟩ := h
    have hi : i < xs.length := (List.getElem?_eq_some_iff.mp hx).1
    refine hs i x H (fun y H4 => ∃ acc, H4 D = some (.lst acc) ∧ acc.length < sizeLine ∧ ∃ ys, Same H1 (hid D (upd H4 D (.lst (acc ++ [y])))) ∧ (upd H4 D (.lst (acc ++ [y]))) D = some (.lst ys) ∧ ys.length ≤ i + 1 ∧ ys.isEmpty = (List.range (i + 1)).all (fun i => !t i)) _ hx (s.trans hid_same) (fun ht y H4 s4 => ?_) (fun ht H4 s4 => ?_)
    · refine ⟨ys, s4 _ _ e, small1000 (by omega), ys ++ [y], ?_, upd_same, by simp; omega, ?_⟩
      · rw [hid_upd]
        exact s.trans (hid_mono s4)
      · rw [ra, ht]
        simp
    · refine ⟨ys, s.trans (hid_mono s4), s4 _ _ e, by omega, ?_⟩
      rw [ra, ht, r]
      simp
  · obtain ⟨ys, s, e, l, r⟩ := h
    exact hd H ys s e r
end Fb

/-! Part A15: comprehensions over any walk, of one and of two clauses; sums of products. -/
namespace Fb
open PySem PySem.Spec PyProof.Rows L2
section
variable {X : Cx} {K : PySem.W.Frag}
theorem pi_enumK {e : Expr} {ta : TA} {p pos tpos : Pos} {elts : List Expr} {kk : Nat} (hK : X.K = K) (hg : Gl X "enumerate") (hm : X.mg "enumerate" = none) (ha : PA X [e] ta) (hs : starEach [e] X.env = [(false, eval e X.env)] := by rfl) :
    PI X (.Tuple elts kk tpos) (.Call (.Name "enumerate" p) [e] [] pos) (iEnum K ta) := hK ▸ pi_enum hg hm ha hs
theorem pi_zipK {e e2 : Expr} {ta : TA} {p pos tpos : Pos} {elts : List Expr} {kk : Nat} (hK : X.K = K) (hg : Gl X "zip") (hm : X.mg "zip" = none) (ha : PA X [e, e2] ta)
    (hs : starEach [e, e2] X.env = (false, eval e X.env) :: starEach [e2] X.env := by rfl) (hpl : (backTo pos (starEach [e2] X.env)).any (·.1) = false := by rfl) :
    PI X (.Tuple elts kk tpos) (.Call (.Name "zip" p) [e, e2] [] pos) (iZip K ta) := hK ▸ pi_zip hg hm ha hs hpl
theorem pi_tupK {tg l : Expr} {tl : TE} (hK : X.K = K) (hl : PE X l tl) : PI X tg l (iTup K tl) := hK ▸ pi_tup hl
end
section
variable {J : It} {n : Nat} {G : Hp → Prop} {Y : Nat → Hp → V → Hp → Prop}
/-- [e for .. in ..] that only makes, over any walk -/
theorem lc_allW (w : Walk J n G Y) {g : TG} {te : TE} {vs : List Nat} {σ : L2.St} {H1 : Hp} {D : Addr} {Qd : Hp → Prop} (R : Nat → V → Hp → Prop) (mono : ∀ i v H H', Same H H' → R i v H → R i v H')
    (hD : H1 D = none) (hS : ∀ H, Same H1 H → G H) (hz : n ≤ 1000)
    (hs : ∀ i x H H' (k : V → Hp → Prop), i < n → Same H1 (hid D H) → (∃ ys, H D = some (.lst ys)) → Y i H x H' → (∀ y H4, Same H H4 → R i y (hid D H4) → k y H4) → g x (wipe σ vs) H' fun σ2 H2 => wipe σ2 vs = wipe σ vs ∧ te σ2 H2 k)
    (hd : ∀ H ys, Same H1 (hid D H) → H D = some (.lst ys) → ys.length = n → (∀ i y, ys[i]? = some y → R i y (hid D H)) → Qd H) :
    ∃ W : Nat → Nat → Hp → Prop, (∃ m, W 0 m (upd H1 D (.lst []))) ∧ ∀ i m H, W i m H →
      (J.stop i H ∧ Qd H) ∨ (J.go i H ∧ ∃ Nx : Hp → Prop, (∀ H', Nx H' → ∃ m', m' < m ∧ W (i + 1) m' H') ∧ ∀ x H', J.yld i H x H' → g x (wipe σ vs) H' fun σ2 H2 => wipe σ2 vs = wipe σ vs ∧ tYes σ2 H2 fun b H3 =>
        if b = true then te σ2 H3 fun y H4 => ∃ acc, H4 D = some (.lst acc) ∧ acc.length < sizeLine ∧ Nx (upd H4 D (.lst (acc ++ [y]))) else Nx H3) := by
  refine lc_it w (fun i H => ∃ ys, Same H1 (hid D H) ∧ H D = some (.lst ys) ∧ ys.length = i ∧ ∀ j y, ys[j]? = some y → R j y (hid D H)) ⟨[], ?_, upd_same, rfl, fun j y h => by simp at h⟩ (fun i H _ h => ?_) (fun i x H H' hi h y => ?_) (fun H h => ?_)
  · intro b o e
    rw [hid_ne (ne_of_none e hD), upd_ne (ne_of_none e hD)]
    exact e
  · obtain ⟨ys, s, _⟩ := h
    exact hS H (s.trans hid_same)
  · obtain ⟨ys, s, e, l, r⟩ := h
    refine hs i x H H' (fun y H4 => ∃ acc, H4 D = some (.lst acc) ∧ acc.length < sizeLine ∧ ∃ ys, Same H1 (hid D (upd H4 D (.lst (acc ++ [y])))) ∧ (upd H4 D (.lst (acc ++ [y]))) D = some (.lst ys) ∧ ys.length = i + 1 ∧ ∀ j y', ys[j]? = some y' → R j y' (hid D (upd H4 D (.lst (acc ++ [y]))))) hi s ⟨_, e⟩ y fun y H4 s4 ry => ?_
    refine ⟨ys, s4 _ _ e, small1000 (by omega), ys ++ [y], ?_, upd_same, by simp [l], fun j y' h => ?_⟩
    · rw [hid_upd]
      exact s.trans (hid_mono s4)
    · rw [hid_upd]
      by_cases hj : j < ys.length
      · rw [List.getElem?_append_left hj] at h
        exact mono _ _ _ _ (hid_mono s4) (r j y' h)
      · rw [List.getElem?_append_right (by omega)] at h
        have hj2 : j - ys.length = 0 := by
          have := (List.getElem?_eq_some_iff.mp h).1
          simp at this
          omega
        rw [hj2] at h
        simp at h
        subst h
        have : j = i := by omega
        rw [this]
        exact ry
  · obtain ⟨ys, s, e, l, r⟩ := h
    exact hd H ys s e l r
/-- [e for .. in .. if ..] over any walk: whether something is left -/
theorem lc_someW (w : Walk J n G Y) {g : TG} {tt : TT} {te : TE} {vs : List Nat} {σ : L2.St} {H1 : Hp} {D : Addr} {Qd : Hp → Prop} (t : Nat → Bool)
    (hD : H1 D = none) (hS : ∀ H, Same H1 H → G H) (hz : n ≤ 1000)
    (hs : ∀ (i : Nat) x H H' (kt : V → Hp → Prop) (kf : Hp → Prop), i < n → Same H1 H → Y i H x H' → (t i = true → ∀ y H4, Same H H4 → kt y H4) → (t i = false → ∀ H4, Same H H4 → kf H4) →
      g x (wipe σ vs) H' fun σ2 H2 => wipe σ2 vs = wipe σ vs ∧ tt σ2 H2 fun b H3 => if b = true then te σ2 H3 kt else kf H3)
    (hd : ∀ H ys, Same H1 (hid D H) → H D = some (.lst ys) → ys.isEmpty = (List.range n).all (fun i => !t i) → Qd H) :
    ∃ W : Nat → Nat → Hp → Prop, (∃ m, W 0 m (upd H1 D (.lst []))) ∧ ∀ i m H, W i m H →
      (J.stop i H ∧ Qd H) ∨ (J.go i H ∧ ∃ Nx : Hp → Prop, (∀ H', Nx H' → ∃ m', m' < m ∧ W (i + 1) m' H') ∧ ∀ x H', J.yld i H x H' → g x (wipe σ vs) H' fun σ2 H2 => wipe σ2 vs = wipe σ vs ∧ tt σ2 H2 fun b H3 =>
        if b = true then te σ2 H3 fun y H4 => ∃ acc, H4 D = some (.lst acc) ∧ acc.length < sizeLine ∧ Nx (upd H4 D (.lst (acc ++ [y]))) else Nx H3) := by
  have ra : ∀ i, (List.range (i + 1)).all (fun i => !t i) = ((List.range i).all (fun i => !t i) && !t i) := fun i => by
    rw [List.range_succ, List.all_append]
    simp
  refine lc_it w (fun i H => ∃ ys, Same H1 (hid D H) ∧ H D = some (.lst ys) ∧ ys.length ≤ i ∧ ys.isEmpty = (List.range i).all (fun i => !t i)) ⟨[], ?_, upd_same, Nat.zero_le _, rfl⟩ (fun i H _ h => ?_) (fun i x H H' hi h y => ?_) (fun H h => ?_)
  · intro b o e
    rw [hid_ne (ne_of_none e hD), upd_ne (ne_of_none e hD)]
    exact e
  · obtain ⟨ys, s, _⟩ := h
    exact hS H (s.trans hid_same)
  · obtain ⟨ys, s, e, l, r⟩ := h
    refine hs i x H H' (fun y H4 => ∃ acc, H4 D = some (.lst acc) ∧ acc.length < sizeLine ∧ ∃ ys, Same H1 (hid D (upd H4 D (.lst (acc ++ [y])))) ∧ (upd H4 D (.lst (acc ++ [y]))) D = some (.lst ys) ∧ ys.length ≤ i + 1 ∧ ys.isEmpty = (List.range (i + 1)).all (fun i => !t i)) _ hi (s.trans hid_same) y (fun ht y H4 s4 => ?_) (fun ht H4 s4 => ?_)
    · refine ⟨ys, s4 _ _ e, small1000 (by omega), ys ++ [y], ?_, upd_same, by simp; omega, ?_⟩
      · rw [hid_upd]
        exact s.trans (hid_mono s4)
      · rw [ra, ht]
        simp
    · refine ⟨ys, s.trans (hid_mono s4), s4 _ _ e, by omega, ?_⟩
      rw [ra, ht, r]
      simp
  · obtain ⟨ys, s, e, l, r⟩ := h
    exact hd H ys s e r
/-- the second clause's own loop -/
theorem lc_inner (w : Walk J n G Y) {g1 : TG} {tt1 : TT} {te : TE} {vs1 : List Nat} {σ2 : L2.St} {H4 : Hp} {D : Addr} {Nx : Hp → Prop} (Pv : Nat → Hp → Prop) (h0 : Pv 0 H4) (hG : ∀ j H, j ≤ n → Pv j H → G H)
    (hs : ∀ j x H H', j < n → Pv j H → Y j H x H' → g1 x (wipe σ2 vs1) H' fun σ3 H5 => wipe σ3 vs1 = wipe σ2 vs1 ∧ tt1 σ3 H5 fun b H6 =>
      if b = true then te σ3 H6 fun y H7 => ∃ acc, H7 D = some (.lst acc) ∧ acc.length < sizeLine ∧ Pv (j + 1) (upd H7 D (.lst (acc ++ [y]))) else Pv (j + 1) H6) (hd : ∀ H, Pv n H → Nx H) :
    ∃ W1 : Nat → Nat → Hp → Prop, (∃ m, W1 0 m H4) ∧ ∀ j k H, W1 j k H →
      (J.stop j H ∧ Nx H) ∨ (J.go j H ∧ ∃ Nx1 : Hp → Prop, (∀ H', Nx1 H' → ∃ k', k' < k ∧ W1 (j + 1) k' H') ∧ ∀ x H', J.yld j H x H' → g1 x (wipe σ2 vs1) H' fun σ3 H5 => wipe σ3 vs1 = wipe σ2 vs1 ∧ tt1 σ3 H5 fun b H6 =>
        if b = true then te σ3 H6 fun y H7 => ∃ acc, H7 D = some (.lst acc) ∧ acc.length < sizeLine ∧ Nx1 (upd H7 D (.lst (acc ++ [y]))) else Nx1 H6) := by
  refine ⟨fun i m H => m = n - i ∧ i ≤ n ∧ Pv i H, ⟨n, by simp, Nat.zero_le _, h0⟩, ?_⟩
  rintro i m H ⟨rfl, hi, p⟩
  have q := hG i H hi p
  by_cases hlt : i < n
  · exact .inr ⟨w.goes i H hlt q, Pv (i + 1), fun H' p' => ⟨n - (i + 1), by omega, rfl, hlt, p'⟩, fun x H' y => hs i x H H' hlt p (w.yields i H x H' hlt q y)⟩
  · have e : i = n := by omega
    subst e
    exact .inl ⟨w.stops H q, hd H p⟩
/-- the items of one turn of the first clause -/
def Block (R : Nat → V → Hp → Prop) (m : Nat) (b : List V) (H : Hp) : Prop := b.length = m ∧ ∀ (j : Nat) y, b[j]? = some y → R j y H
theorem Block.mono {R : Nat → V → Hp → Prop} {m : Nat} {b : List V} {H H' : Hp} (mono : ∀ j v H H', Same H H' → R j v H → R j v H') (s : Same H H') (h : Block R m b H) : Block R m b H' := ⟨h.1, fun j y hy => mono j y H H' s (h.2 j y hy)⟩
/-- what the second clause's source is, seen from the i-th turn of the first -/
def InC (m : Nat) (R : Nat → V → Hp → Prop) (g1 : TG) (te : TE) (vs1 : List Nat) (D : Addr) (H : Hp) (σ2 : L2.St) (J1 : It) (H4 : Hp) : Prop :=
  Same H H4 ∧ ∃ (G1 : Hp → Prop) (Y1 : Nat → Hp → V → Hp → Prop), Walk J1 m G1 Y1 ∧ (∀ H5, Same (hid D H4) (hid D H5) → (∃ ys, H5 D = some (.lst ys)) → G1 H5) ∧
    ∀ j x1 H5 H6 (k : V → Hp → Prop), j < m → Same (hid D H4) (hid D H5) → (∃ ys, H5 D = some (.lst ys)) → Y1 j H5 x1 H6 → (∀ y H7, Same H5 H7 → R j y (hid D H7) → k y H7) →
      g1 x1 (wipe σ2 vs1) H6 fun σ3 H8 => wipe σ3 vs1 = wipe σ2 vs1 ∧ te σ3 H8 k
theorem lc2_all (w : Walk J n G Y) {g g1 : TG} {wi1 : TI} {te : TE} {vs vs1 : List Nat} {σ : L2.St} {H1 : Hp} {D : Addr} {Qd : Hp → Prop} (m : Nat → Nat) (R : Nat → Nat → V → Hp → Prop) (mono : ∀ i j v H H', Same H H' → R i j v H → R i j v H')
    (M : Nat) (hm : ∀ i, i < n → m i ≤ M) (hnM : n * M ≤ 999) (hD : H1 D = none) (hS : ∀ H, Same H1 H → G H)
    (hs : ∀ i x H H' (kk : L2.St → It → Hp → Prop), i < n → Same H1 (hid D H) → (∃ ys, H D = some (.lst ys)) → Y i H x H' → (∀ σ2 J1 H4, InC (m i) (R i) g1 te vs1 D H σ2 J1 H4 → kk σ2 J1 H4) →
      g x (wipe σ vs) H' fun σ2 H2 => wipe σ2 vs = wipe σ vs ∧ wi1 σ2 H2 (kk σ2))
    (hd : ∀ H (bs : List (List V)), Same H1 (hid D H) → H D = some (.lst bs.flatten) → bs.length = n → (∀ (i : Nat) b, bs[i]? = some b → Block (R i) (m i) b (hid D H)) → Qd H) :
    ∃ W : Nat → Nat → Hp → Prop, (∃ m, W 0 m (upd H1 D (.lst []))) ∧ ∀ i m H, W i m H →
      (J.stop i H ∧ Qd H) ∨ (J.go i H ∧ ∃ Nx : Hp → Prop, (∀ H', Nx H' → ∃ m', m' < m ∧ W (i + 1) m' H') ∧ ∀ x H', J.yld i H x H' → g x (wipe σ vs) H' fun σ2 H2 => wipe σ2 vs = wipe σ vs ∧ tYes σ2 H2 fun b H3 =>
        if b = true then wi1 σ2 H3 fun J1 H4 => ∃ W1 : Nat → Nat → Hp → Prop, (∃ m, W1 0 m H4) ∧ ∀ j k H, W1 j k H →
          (J1.stop j H ∧ Nx H) ∨ (J1.go j H ∧ ∃ Nx1 : Hp → Prop, (∀ H', Nx1 H' → ∃ k', k' < k ∧ W1 (j + 1) k' H') ∧ ∀ x H', J1.yld j H x H' → g1 x (wipe σ2 vs1) H' fun σ3 H5 => wipe σ3 vs1 = wipe σ2 vs1 ∧ tYes σ3 H5 fun b H6 =>
            if b = true then te σ3 H6 fun y H7 => ∃ acc, H7 D = some (.lst acc) ∧ acc.length < sizeLine ∧ Nx1 (upd H7 D (.lst (acc ++ [y]))) else Nx1 H6)
        else Nx H3) := by
  have fl : ∀ (bs : List (List V)), (∀ (i : Nat) b, bs[i]? = some b → b.length ≤ M) → bs.flatten.length ≤ bs.length * M := fun bs => by
    induction bs with
    | nil => intro _; simp
    | cons b r ih =>
      intro h
      have h1 := h 0 b rfl
      have h2 := ih fun i b hb => h (i + 1) b hb
      rw [List.flatten_cons, List.length_append, List.length_cons, Nat.succ_mul]
      omega
  let Pv : Nat → Hp → Prop := fun i H => ∃ bs : List (List V), Same H1 (hid D H) ∧ H D = some (.lst bs.flatten) ∧ bs.length = i ∧ ∀ (i : Nat) b, bs[i]? = some b → Block (R i) (m i) b (hid D H)
  refine ⟨fun i m H => m = n - i ∧ i ≤ n ∧ Pv i H, ⟨n, by simp, Nat.zero_le _, [], ?_, upd_same, rfl, fun i b h => by simp at h⟩, ?_⟩
  · intro b o e
    rw [hid_ne (ne_of_none e hD), upd_ne (ne_of_none e hD)]
    exact e
  rintro i mm H ⟨rfl, hi, p⟩
  obtain ⟨bs, s, e, l, r⟩ := id p
  have q := hS H (s.trans hid_same)
  by_cases hlt : i < n
  · refine .inr ⟨w.goes i H hlt q, Pv (i + 1), fun H' p' => ⟨n - (i + 1), by omega, rfl, hlt, p'⟩, fun x H' y => ?_⟩
    refine hs i x H H' _ hlt s ⟨_, e⟩ (w.yields i H x H' hlt q y) fun σ2 J1 H4 inc => ?_
    obtain ⟨s4, G1, Y1, w1, hG1, hs1⟩ := inc
    have e4 := s4 _ _ e
    refine lc_inner w1 (fun j H5 => ∃ b : List V, Same (hid D H4) (hid D H5) ∧ H5 D = some (.lst (bs.flatten ++ b)) ∧ Block (R i) j b (hid D H5)) ⟨[], Same.refl _, by rw [List.append_nil]; exact e4, rfl, fun j y h => by simp at h⟩ (fun j H5 _ h => ?_) (fun j x1 H5 H6 hj h y1 => ?_) (fun H5 h => ?_)
    · obtain ⟨b, s5, e5, _⟩ := h
      exact hG1 H5 s5 ⟨_, e5⟩
    · obtain ⟨b, s5, e5, b5⟩ := h
      refine hs1 j x1 H5 H6 _ hj s5 ⟨_, e5⟩ y1 fun y H7 s7 ry => ?_
      refine ⟨_, s7 _ _ e5, small1000 ?_, b ++ [y], ?_, ?_, ?_⟩
      · have h1 := fl bs fun i b hb => by
          have hi' : i < n := by
            have := (List.getElem?_eq_some_iff.mp hb).1
            omega
          rw [(r i b hb).1]
          exact hm i hi'
        have h2 : b.length < M := by
          have := hm i hlt
          rw [b5.1]
          omega
        have h3 : (i + 1) * M ≤ n * M := Nat.mul_le_mul_right _ hlt
        rw [Nat.succ_mul] at h3
        rw [List.length_append]
        rw [l] at h1
        omega
      · rw [hid_upd]
        exact s5.trans (hid_mono s7)
      · rw [upd_same, List.append_assoc]
      · rw [hid_upd]
        refine ⟨by rw [List.length_append, b5.1]; rfl, fun j' y' h => ?_⟩
        by_cases hj' : j' < b.length
        · rw [List.getElem?_append_left hj'] at h
          exact mono _ _ _ _ _ (hid_mono s7) (b5.2 j' y' h)
        · rw [List.getElem?_append_right (by omega)] at h
          have hj2 : j' - b.length = 0 := by
            have := (List.getElem?_eq_some_iff.mp h).1
            simp at this
            omega
          rw [hj2] at h
          simp at h
          subst h
          have hb := b5.1
          have : j' = j := by omega
          rw [this]
          exact ry
    · obtain ⟨b, s5, e5, b5⟩ := h
      refine ⟨bs ++ [b], s.trans ((hid_mono s4).trans s5), by rw [e5]; simp, by simp [l], fun i' b' h => ?_⟩
      by_cases hi' : i' < bs.length
      · rw [List.getElem?_append_left hi'] at h
        exact (r i' b' h).mono (mono i') ((hid_mono s4).trans s5)
      · rw [List.getElem?_append_right (by omega)] at h
        have hj2 : i' - bs.length = 0 := by
          have := (List.getElem?_eq_some_iff.mp h).1
          simp at this
          omega
        rw [hj2] at h
        simp at h
        subst h
        have : i' = i := by omega
        rw [this]
        exact b5
  · have e' : i = n := by omega
    subst e'
    exact .inl ⟨w.stops H q, hd H bs s e l r⟩
end
/-! ### slots that a comprehension sets are wiped -/
theorem wipe_in {σ : L2.St} {i : Nat} : ∀ {vs : List Nat}, i ∈ vs → (wipe σ vs)[i]? = if i < σ.length then some none else none
  | v :: vs, h => by
    unfold wipe
    rw [List.getElem?_set, wipe_length]
    by_cases e : v = i
    · subst e
      rw [if_pos rfl]
    · rw [if_neg e]
      exact wipe_in ((List.mem_cons.mp h).resolve_left fun z => e z.symm)
theorem wipe_eq {σ σ' : L2.St} {vs : List Nat} (hl : σ'.length = σ.length) (h : ∀ i, i ∉ vs → σ'[i]? = σ[i]?) : wipe σ' vs = wipe σ vs := by
  refine List.ext_getElem? fun i => ?_
  by_cases hi : i ∈ vs
  · rw [wipe_in hi, wipe_in hi, hl]
  · rw [wipe_out hi, wipe_out hi, h i hi]
theorem wipe1 {σ : L2.St} {vs : List Nat} {i : Nat} {x : Option V} (hi : i ∈ vs) : wipe ((wipe σ vs).set i x) vs = wipe σ vs := by
  refine wipe_eq (by rw [List.length_set, wipe_length]) fun j hj => ?_
  have n1 : i ≠ j := fun e => hj (e ▸ hi)
  rw [List.getElem?_set_ne n1, wipe_out hj]
theorem wipe2 {σ : L2.St} {vs : List Nat} {i j : Nat} {x y : Option V} (hi : i ∈ vs) (hj : j ∈ vs) : wipe (((wipe σ vs).set i x).set j y) vs = wipe σ vs := by
  refine wipe_eq (by rw [List.length_set, List.length_set, wipe_length]) fun l hl => ?_
  have n1 : i ≠ l := fun e => hl (e ▸ hi)
  have n2 : j ≠ l := fun e => hl (e ▸ hj)
  rw [List.getElem?_set_ne n2, List.getElem?_set_ne n1, wipe_out hl]
theorem look_out {σ : L2.St} {vs : List Nat} {i j l : Nat} {x y o : Option V} (h : σ[l]? = some o) (hl : l ∉ vs) (n1 : i ≠ l) (n2 : j ≠ l) : (((wipe σ vs).set i x).set j y)[l]? = some o := by
  rw [List.getElem?_set_ne n2, List.getElem?_set_ne n1, wipe_out hl, h]
theorem look_1 {σ : L2.St} {vs : List Nat} {i j : Nat} {x y : Option V} (hl : i < σ.length) (n : j ≠ i) : (((wipe σ vs).set i x).set j y)[i]? = some x := by
  rw [List.getElem?_set_ne n, List.getElem?_set_self (by rw [wipe_length]; exact hl)]
theorem look_2 {σ : L2.St} {vs : List Nat} {i j : Nat} {x y : Option V} (hl : j < σ.length) : (((wipe σ vs).set i x).set j y)[j]? = some y := by
  rw [List.getElem?_set_self (by rw [List.length_set, wipe_length]; exact hl)]
theorem look_len {σ : L2.St} {vs : List Nat} {i j n : Nat} {x y : Option V} (hl : σ.length = n) : (((wipe σ vs).set i x).set j y).length = n := by
  rw [List.length_set, List.length_set, wipe_length, hl]
/-- rows put one behind the other -/
theorem AllAre.flatten {α : Type} {R : V → α → Prop} : ∀ {bs : List (List V)} {xss : List (List α)}, bs.length = xss.length → (∀ (i : Nat) b xs, bs[i]? = some b → xss[i]? = some xs → AllAre R b xs) → AllAre R bs.flatten xss.flatten
  | [], [], _, _ => .nil
  | b :: bs, xs :: xss, l, h => by
    rw [List.flatten_cons, List.flatten_cons]
    exact (h 0 b xs rfl rfl).append (AllAre.flatten (by simpa using l) fun i b xs h1 h2 => h (i + 1) b xs h1 h2)
  | [], _ :: _, l, _ => by simp at l
  | _ :: _, [], l, _ => by simp at l
/-! ### sums of products -/
def dot (qs rs : List Rat) : Rat := rsum (List.zipWith (· * ·) qs rs)
theorem tops_dot {U G : Nat} (hU : 0 < U) (hG : 0 < G) : ∀ (qs rs : List Rat), (∀ q ∈ qs, q.den ∣ U) → (∀ r ∈ rs, r.den ∣ G) →
    Rat.divInt (List.zipWith (· * ·) (topsOf U qs) (topsOf G rs)).sum ((U : Int) * (G : Int)) = dot qs rs
  | [], _, _, _ => by simp [topsOf, dot, rsum]
  | _ :: _, [], _, _ => by simp [topsOf, dot, rsum]
  | q :: qs, r :: rs, h1, h2 => by
    have ih := tops_dot hU hG qs rs (fun x hx => h1 x (List.mem_cons_of_mem _ hx)) fun x hx => h2 x (List.mem_cons_of_mem _ hx)
    have t1 := tops_one hU (h1 q List.mem_cons_self)
    have t2 := tops_one hG (h2 r List.mem_cons_self)
    show Rat.divInt ((q.num * ((U / q.den : Nat) : Int)) * (r.num * ((G / r.den : Nat) : Int)) + (List.zipWith (· * ·) (topsOf U qs) (topsOf G rs)).sum) ((U : Int) * (G : Int)) = q * r + dot qs rs
    rw [divInt_add_same, ih, ← Rat.divInt_mul_divInt, t1, t2]
theorem den_add {a b : Rat} {S : Nat} (h0 : 0 < S) (ha : a.den ∣ S) (hb : b.den ∣ S) : (a + b).den ∣ S := by
  have e : a + b = Rat.divInt (a.num * ((S / a.den : Nat) : Int) + b.num * ((S / b.den : Nat) : Int)) (S : Int) := by
    rw [divInt_add_same, tops_one h0 ha, tops_one h0 hb]
  rw [e]
  exact den_dvd_bot h0
end Fb

/-! Part A16: fractions over a common bottom that are not great; sums of products of pairs. -/
namespace Fb
open PySem PySem.Spec PyProof.Rows L2
structure Nice (S M : Nat) (q : Rat) : Prop where
  den : q.den ∣ S
  abs : q.num.natAbs ≤ M * q.den
theorem Nice.mono {S S' M M' : Nat} {q : Rat} (h : Nice S M q) (d : S ∣ S') (l : M ≤ M') : Nice S' M' q := ⟨Nat.dvd_trans h.den d, Nat.le_trans h.abs (Nat.mul_le_mul_right _ l)⟩
theorem Nice.bd {S M n : Nat} {q : Rat} (h : Nice S M q) (S0 : 0 < S) (h1 : S < 2 ^ n) (h2 : M * S < 2 ^ n) : Bd n q := by
  have l := Nat.le_of_dvd S0 h.den
  exact ⟨Nat.lt_of_le_of_lt (Nat.le_trans h.abs (Nat.mul_le_mul_left _ l)) h2, Nat.lt_of_le_of_lt l h1⟩
theorem divInt_cross {t b : Int} {q : Rat} (hb : b ≠ 0) (h : Rat.divInt t b = q) : q.num * b = t * (q.den : Int) := by
  have e : Rat.divInt q.num (q.den : Int) = Rat.divInt t b := by rw [divInt_self, h]
  exact (Rat.divInt_eq_divInt_iff (den_ne q) hb).mp e
theorem Nice.of {t : Int} {b S M : Nat} (hb : 0 < b) (d : b ∣ S) (h : t.natAbs ≤ M * b) : Nice S M (Rat.divInt t (b : Int)) := by
  refine ⟨Nat.dvd_trans (den_dvd_bot hb) d, ?_⟩
  have e := divInt_cross (t := t) (b := (b : Int)) (by omega) rfl
  generalize Rat.divInt t (b : Int) = q at e
  have e2 := congrArg Int.natAbs e
  rw [Int.natAbs_mul, Int.natAbs_mul, Int.natAbs_natCast, Int.natAbs_natCast] at e2
  have h3 : q.num.natAbs * b ≤ (M * q.den) * b := by
    rw [e2, Nat.mul_right_comm]
    exact Nat.mul_le_mul_right _ h
  exact Nat.le_of_mul_le_mul_right h3 hb
theorem Nice.add {S M N : Nat} {x y : Rat} (S0 : 0 < S) (hx : Nice S M x) (hy : Nice S N y) : Nice S (M + N) (x + y) := by
  refine ⟨den_add S0 hx.den hy.den, ?_⟩
  have e := divInt_cross (dens_ne x y) (rat_add x y)
  generalize x + y = q at e
  have e2 := congrArg Int.natAbs e
  rw [Int.natAbs_mul, Int.natAbs_mul, Int.natAbs_mul, Int.natAbs_natCast, Int.natAbs_natCast, Int.natAbs_natCast] at e2
  have h1 : (x.num * (y.den : Int) + y.num * (x.den : Int)).natAbs ≤ (M + N) * (x.den * y.den) := by
    refine Nat.le_trans (Int.natAbs_add_le _ _) ?_
    rw [Int.natAbs_mul, Int.natAbs_mul, Int.natAbs_natCast, Int.natAbs_natCast, Nat.add_mul]
    refine Nat.add_le_add ?_ ?_
    · rw [← Nat.mul_assoc]
      exact Nat.mul_le_mul_right _ hx.abs
    · rw [Nat.mul_comm x.den, ← Nat.mul_assoc]
      exact Nat.mul_le_mul_right _ hy.abs
  have h3 : q.num.natAbs * (x.den * y.den) ≤ ((M + N) * q.den) * (x.den * y.den) := by
    rw [e2, Nat.mul_right_comm]
    exact Nat.mul_le_mul_right _ h1
  exact Nat.le_of_mul_le_mul_right h3 (Nat.mul_pos x.den_pos y.den_pos)
theorem Nice.neg {S M : Nat} {x : Rat} (h : Nice S M x) : Nice S M (-x) := by
  refine ⟨by rw [Rat.neg_den]; exact h.den, ?_⟩
  rw [Rat.neg_num, Rat.neg_den, Int.natAbs_neg]
  exact h.abs
theorem Nice.sub {S M N : Nat} {x y : Rat} (S0 : 0 < S) (hx : Nice S M x) (hy : Nice S N y) : Nice S (M + N) (x - y) := by
  rw [Rat.sub_eq_add_neg]
  exact hx.add S0 hy.neg
theorem Nice.mul {S T M N : Nat} {x y : Rat} (hx : Nice S M x) (hy : Nice T N y) : Nice (S * T) (M * N) (x * y) := by
  have e := divInt_cross (dens_ne x y) (rat_mul x y)
  have dd : (x * y).den ∣ x.den * y.den := by
    rw [← rat_mul, ← Int.natCast_mul]
    exact den_dvd_bot (Nat.mul_pos x.den_pos y.den_pos)
  refine ⟨Nat.dvd_trans dd (Nat.mul_dvd_mul hx.den hy.den), ?_⟩
  generalize x * y = q at e
  have e2 := congrArg Int.natAbs e
  rw [Int.natAbs_mul, Int.natAbs_mul, Int.natAbs_mul, Int.natAbs_mul, Int.natAbs_natCast, Int.natAbs_natCast, Int.natAbs_natCast] at e2
  have h3 : q.num.natAbs * (x.den * y.den) ≤ ((M * N) * q.den) * (x.den * y.den) := by
    rw [e2]
    have := Nat.mul_le_mul hx.abs hy.abs
    calc x.num.natAbs * y.num.natAbs * q.den ≤ (M * x.den) * (N * y.den) * q.den := Nat.mul_le_mul_right _ this
      _ = M * N * q.den * (x.den * y.den) := by
        simp only [Nat.mul_comm, Nat.mul_assoc, Nat.mul_left_comm]
  exact Nat.le_of_mul_le_mul_right h3 (Nat.mul_pos x.den_pos y.den_pos)
theorem Nice.zero {S : Nat} : Nice S 0 0 := ⟨Nat.one_dvd _, by decide⟩
theorem Nice.rsum {S M : Nat} (S0 : 0 < S) : ∀ {qs : List Rat}, (∀ q ∈ qs, Nice S M q) → Nice S (M * qs.length) (Fb.rsum qs)
  | [], _ => by
    rw [List.length_nil, Nat.mul_zero]
    exact Nice.zero
  | q :: r, h => by
    have h1 := (h q List.mem_cons_self).add S0 (Nice.rsum S0 (qs := r) fun x hx => h x (List.mem_cons_of_mem _ hx))
    rw [List.length_cons, Nat.mul_succ, Nat.add_comm]
    exact h1
theorem mem_zip {qs rs : List Rat} {z : Rat} (h : z ∈ List.zipWith (· * ·) qs rs) : ∃ q ∈ qs, ∃ r ∈ rs, z = q * r := by
  obtain ⟨i, hi, e⟩ := List.mem_iff_getElem.mp h
  rw [List.getElem_zipWith] at e
  exact ⟨_, List.getElem_mem _, _, List.getElem_mem _, e.symm⟩
/-- row by row is the same as all in one -/
theorem dot_rows : ∀ {css pss : List (List Rat)}, css.length = pss.length → (∀ (i : Nat) c p, css[i]? = some c → pss[i]? = some p → c.length = p.length) → dot css.flatten pss.flatten = rsum (List.zipWith dot css pss)
  | [], [], _, _ => rfl
  | c :: css, p :: pss, l, h => by
    have ih := dot_rows (css := css) (pss := pss) (by simpa using l) fun i c p h1 h2 => h (i + 1) c p h1 h2
    have h0 : c.length = p.length := h 0 c p rfl rfl
    show dot (c ++ css.flatten) (p ++ pss.flatten) = dot c p + rsum (List.zipWith dot css pss)
    rw [← ih]
    unfold dot
    rw [List.zipWith_append h0, rsum_append]
  | [], _ :: _, l, _ => by simp at l
  | _ :: _, [], l, _ => by simp at l
theorem lcm_len {qs : List Rat} {n N a : Nat} (h : ∀ q ∈ qs, q.den < 2 ^ n) (l : qs.length ≤ N) (ha : 1 + n * N ≤ a) : lcmOn 1 qs < 2 ^ a := by
  have h1 := lcmOn_lt qs 1 n 1 h (by decide)
  refine Nat.lt_of_lt_of_le h1 (Nat.pow_le_pow_right (by decide) ?_)
  have := Nat.mul_le_mul_left n l
  omega
theorem flat_len {l : List (List Rat)} {k : Nat} (h : ∀ qs ∈ l, qs.length ≤ k) : l.flatten.length ≤ l.length * k := by
  induction l with
  | nil => simp
  | cons b r ih =>
    have h1 := h b List.mem_cons_self
    have h2 := ih fun q hq => h q (List.mem_cons_of_mem _ hq)
    rw [List.flatten_cons, List.length_append, List.length_cons, Nat.succ_mul]
    omega
theorem mem_rows {l : List (List Rat)} {q : Rat} (h : q ∈ l.flatten) : ∃ r ∈ l, q ∈ r := List.mem_flatten.mp h
/-- [e for .. in ..] over any walk, each turn at most c draws -/
theorem lc_wellW {J : It} {n : Nat} {G : Hp → Prop} {Y : Nat → Hp → V → Hp → Prop} (w : Walk J n G Y) {g : TG} {te : TE} {vs : List Nat} {σ : L2.St} {H1 : Hp} {D a : Addr} {Qd : Hp → Prop} (R : V → Hp → Prop) (mono : ∀ v H H', Same H H' → R v H → R v H') (c f : Nat)
    (hD : H1 D = none) (hw : WellAt H1 a (f + c * n)) (hn : n ≤ 1000) (hS : ∀ H, Same (hid a H1) (hid a H) → G H)
    (hs : ∀ i x H H' m (k : V → Hp → Prop), i < n → WellAt H a (m + c) → Same (hid a H1) (hid D (hid a H)) → (∃ ys, H D = some (.lst ys)) → Y i H x H' → (∀ y H4, Same (hid a H) (hid a H4) → WellAt H4 a m → R y (hid D (hid a H4)) → k y H4) →
      g x (wipe σ vs) H' fun σ2 H2 => wipe σ2 vs = wipe σ vs ∧ te σ2 H2 k)
    (hd : ∀ H ys, Same (hid a H1) (hid D (hid a H)) → WellAt H a f → H D = some (.lst ys) → ys.length = n → (∀ y ∈ ys, R y (hid D (hid a H))) → Qd H) :
    ∃ W : Nat → Nat → Hp → Prop, (∃ m, W 0 m (upd H1 D (.lst []))) ∧ ∀ i m H, W i m H →
      (J.stop i H ∧ Qd H) ∨ (J.go i H ∧ ∃ Nx : Hp → Prop, (∀ H', Nx H' → ∃ m', m' < m ∧ W (i + 1) m' H') ∧ ∀ x H', J.yld i H x H' → g x (wipe σ vs) H' fun σ2 H2 => wipe σ2 vs = wipe σ vs ∧ tYes σ2 H2 fun b H3 =>
        if b = true then te σ2 H3 fun y H4 => ∃ acc, H4 D = some (.lst acc) ∧ acc.length < sizeLine ∧ Nx (upd H4 D (.lst (acc ++ [y]))) else Nx H3) := by
  have nD : D ≠ a := hw.ne hD
  refine lc_it w (fun i H => ∃ ys, Same (hid a H1) (hid D (hid a H)) ∧ WellAt H a (f + c * (n - i)) ∧ H D = some (.lst ys) ∧ ys.length = i ∧ ∀ y ∈ ys, R y (hid D (hid a H))) ⟨[], ?_, hw.upd nD, upd_same, rfl, fun y h => by simp at h⟩ (fun i H _ h => ?_) (fun i x H H' hi h y => ?_) (fun H h => ?_)
  · rw [hid2_upd nD]
    intro b o e
    have hb : b ≠ D := fun z => by
      rw [z, hid_ne nD, hD] at e
      cases e
    rw [hid_ne hb]
    exact e
  · obtain ⟨ys, s, _⟩ := h
    exact hS H (s.trans hid_same)
  · obtain ⟨ys, s, w, e, l, r⟩ := h
    have ec : f + c * (n - i) = (f + c * (n - (i + 1))) + c := by
      have : n - i = (n - (i + 1)) + 1 := by omega
      rw [this, Nat.mul_succ]
      omega
    rw [ec] at w
    refine hs i x H H' _ (fun y H4 => ∃ acc, H4 D = some (.lst acc) ∧ acc.length < sizeLine ∧ ∃ ys, Same (hid a H1) (hid D (hid a (upd H4 D (.lst (acc ++ [y]))))) ∧ WellAt (upd H4 D (.lst (acc ++ [y]))) a (f + c * (n - (i + 1))) ∧ (upd H4 D (.lst (acc ++ [y]))) D = some (.lst ys) ∧ ys.length = i + 1 ∧ ∀ y' ∈ ys, R y' (hid D (hid a (upd H4 D (.lst (acc ++ [y])))))) hi w s ⟨_, e⟩ y fun y H4 s4 w4 ry => ?_
    have e4 : H4 D = some (.lst ys) := by
      have := s4 D (.lst ys) (by rw [hid_ne nD]; exact e)
      rw [hid_ne nD] at this
      exact this
    refine ⟨ys, e4, small1000 (by omega), ys ++ [y], ?_, w4.upd nD, upd_same, by simp [l], fun y' h => ?_⟩
    · rw [hid2_upd nD]
      exact s.trans (hid_mono s4)
    · rw [hid2_upd nD]
      rcases List.mem_append.mp h with h | h
      · exact mono _ _ _ (hid_mono s4) (r y' h)
      · have : y' = y := by simpa using h
        rw [this]
        exact ry
  · obtain ⟨ys, s, w, e, l, r⟩ := h
    rw [Nat.sub_self, Nat.mul_zero] at w
    exact hd H ys s w e l r
end Fb

/-! Part S1: sets of objects that are found by a key of their own (tuples of ints and texts): searching, laying anew, adding. -/
namespace Fb
open PySem PySem.Spec PyProof.Rows L2
theorem units1 {u : Nat} (h : u + 64 < cLine) : u + 1 < cLine := by omega
theorem units2 {u : Nat} (h : u + 64 < cLine) : u + 2 < cLine := by omega
section
variable {P : Program} {w : World}
/-- objects known by keys: their hash, and what the model asks of two of them -/
structure Known (P : Program) (w : World) (κ : Type) [DecidableEq κ] where
  at_ : Heap → κ → Addr → Prop
  hf : κ → Int
  eq_ : ∀ {A : Around} {E : Value → Shared → Prop} {s : Shared} {k l : κ} {b c : Addr} {Q : Bool → Shared → Prop}, A.units < cLine → at_ s.heap k b → at_ s.heap l c → Q (decide (k = l)) s → wpAny (model P w) A (eqBool (.ref b) (.ref c)) Q E s
  unseen : ∀ {A : Around} {E : Value → Shared → Prop} {s : Shared} {k : κ} {b : Addr} {ys : List Value} {Q : Bool → Shared → Prop}, at_ s.heap k b → (∀ y ∈ ys, ∃ l c, y = Value.ref c ∧ at_ s.heap l c) → Q false s → wpAny (model P w) A (searchCouldBeSeen (.ref b) ys) Q E s
  byVal : ∀ {A : Around} {E : Value → Shared → Prop} {s : Shared} {k : κ} {b : Addr} {Q : Bool → Shared → Prop}, at_ s.heap k b → (∀ r, Q r s) → wpAny (model P w) A (hashByValue 8 (.ref b)) Q E s
  stays : ∀ {h h' : Heap} {k : κ} {a b : Addr} {o : Obj} {es : Array (Int × Value)} {ep : Nat} {t : SetTable}, at_ h k b → h.get? a = some o → o.data = .set es ep t → Heap.SameBut a h h' → at_ h' k b
  keeps : ∀ {h h' : Heap} {k : κ} {b : Addr}, at_ h k b → (∀ c o, h.get? c = some o → h'.get? c = some o) → at_ h' k b
variable {κ : Type} [DecidableEq κ] (N : Known P w κ)
def entries (L : List (Addr × κ)) : List (Int × Value) := L.map fun p => (N.hf p.2, Value.ref p.1)
/-- a set of them, with its table -/
structure KSet (h : Heap) (a : Addr) (L : List (Addr × κ)) (es : Array (Int × Value)) (ep : Nat) (t : SetTable) : Prop where
  obj : ∃ o, h.get? a = some o ∧ o.ExactSet ∧ o.data = .set es ep t
  ents : es.toList = entries N L
  tab : TabOk t (L.map fun p => N.hf p.2)
  once : (L.map (·.2)).Nodup
  all : ∀ p ∈ L, N.at_ h p.2 p.1
  ld : w.params.followText "set-order" = true ∨ t.led = true
  room : L.length * 5 < t.mask * 3
  few : L.length < 64
variable {N}
theorem entries_len {L : List (Addr × κ)} {es : Array (Int × Value)} (h : es.toList = entries N L) : es.size = L.length := by
  rw [← Array.length_toList, h]
  exact List.length_map ..
theorem entries_at {L : List (Addr × κ)} {es : Array (Int × Value)} (h : es.toList = entries N L) {i : Nat} {p : Addr × κ} (hp : L[i]? = some p) : es[i]? = some (N.hf p.2, Value.ref p.1) := by
  rw [← Array.getElem?_toList, h, entries, List.getElem?_map, hp]
  rfl
theorem fits_by {t : SetTable} {n : Nat} (h1 : t.place.size = n) (h2 : t.dummies = #[]) (h3 : n ≤ t.mask) : t.fits n = true := by
  simp only [SetTable.fits, SetTable.fill, h2, Bool.and_eq_true, beq_iff_eq, decide_eq_true_eq]
  exact ⟨h1, by show t.place.size + 0 ≤ t.mask; omega⟩
variable {h₀ : Heap} {a : Addr} {L : List (Addr × κ)} {es : Array (Int × Value)} {ep : Nat} {t : SetTable}
theorem KSet.fit {s : Shared} (R : KSet N s.heap a L es ep t) : t.fits es.size = true := by
  have e1 := R.tab.sz
  have e2 := entries_len R.ents
  have e3 := R.room
  rw [List.length_map] at e1
  exact fits_by (by omega) R.tab.dm (by omega)
theorem not_gave {t : SetTable} (h : MaskOk t.mask) : ¬ t.gaveWay = true := by
  unfold SetTable.gaveWay
  rw [mask_odd h]
  decide
/-- the probe's way from its c-th place on -/
abbrev wayP (m : Nat) (h : Int) (c : Nat) : SetTable.Probe := nth m (runAt m (SetTable.bits h % (m + 1)) (SetTable.bits h)) c
theorem nth_clean (m : Nat) : ∀ (n : Nat) (p : SetTable.Probe), p.dummy = none → (nth m p n).dummy = none
  | 0, _, h => h
  | n + 1, p, h => nth_clean m n (adv m p) (by unfold adv; split <;> exact h)
theorem wayP_from (m : Nat) (h : Int) (c q : Nat) : nth m (wayP m h c) q = wayP m h (c + q) := (nth_add m c _ q).symm
/-- what is asked of the search -/
structure Ask (N : Known P w κ) (L : List (Addr × κ)) (t : SetTable) (k : κ) (K : Nat) : Prop where
  fuel : K < 10 * SetTable.turns t.mask
  empty : way t.mask (N.hf k) K ∉ t.place.toList
  full : ∀ c, c < K → way t.mask (N.hf k) c ∈ t.place.toList
theorem seek {A : Around} {E : Value → Shared → Prop} {s : Shared} (R : KSet N s.heap a L es ep t) {x : Addr} {k : κ} (hx : N.at_ s.heap k x) (hu : A.units < cLine) {K : Nat} (W : Ask N L t k K) {Q : SetFound → Shared → Prop}
    (yes : k ∈ L.map (·.2) → Q (.there none) s) (no : k ∉ L.map (·.2) → Q (.free (way t.mask (N.hf k) K) false) s) (m : Nat) :
    ∀ (c f : Nat) (st : Option SetTable.Probe), K - c = m → m < f → c ≤ K → st.getD (t.probeStart (N.hf k)) = wayP t.mask (N.hf k) c →
      (∀ (i : Nat) p, L[i]? = some p → p.2 = k → ∃ d, c ≤ d ∧ d < K ∧ t.place.toList[i]? = some (way t.mask (N.hf k) d)) → wpAny (model P w) A (setSearchFrom a (.ref x) (N.hf k) true f st) Q E s := by
  induction m using Nat.strongRecOn with
  | ind m ih =>
  intro c f st hm hf hc hst ahead
  obtain ⟨o, ho, hex, hd⟩ := R.obj
  cases f with
  | zero => omega
  | succ f =>
  rw [setSearchFrom_succ]
  refine wpAny_bind (wpAny_setState_of ho hd R.fit ?_)
  dsimp only
  refine wp_if_neg (not_gave R.tab.mok) ?_
  try refine wpAny_bind (wpAny_pure ?_)
  have J : ∀ q, (nth t.mask (wayP t.mask (N.hf k) c) q).j = way t.mask (N.hf k) (c + q) := fun q => congrArg SetTable.Probe.j (wayP_from t.mask (N.hf k) c q)
  have at_h : ∀ (i : Nat) p, L[i]? = some p → (fun i => (es[i]?.map (·.1)).getD 0) i = N.hf p.2 := fun i p hp => by
    dsimp only
    rw [entries_at R.ents hp]
    rfl
  have end_ : c + (K - c) = K := by omega
  have g := go_spec t R.tab.ris R.tab.dm (fun i => (es[i]?.map (·.1)).getD 0) (N.hf k) (10 * SetTable.turns t.mask) (K - c) (wayP t.mask (N.hf k) c) (nth_clean _ _ _ rfl) (by have := W.fuel; omega)
    (fun q hq => by rw [J]; exact W.full _ (by omega)) (by rw [J, end_]; exact W.empty)
  rcases g with ⟨q, i, hq, hi, hh, before, met⟩ | ⟨none_, met⟩
  · have met' : t.probe (fun i => (es[i]?.map (·.1)).getD 0) (N.hf k) (st.getD (t.probeStart (N.hf k))) = some (.candidate (way t.mask (N.hf k) (c + q)) i (wayP t.mask (N.hf k) (c + (q + 1)))) := by
      rw [hst, ← J, ← wayP_from]
      exact met
    rw [met']
    dsimp only
    rw [J] at hi
    have il : i < L.length := by
      have e1 := (List.getElem?_eq_some_iff.mp hi).1
      have e2 := R.tab.sz
      rw [List.length_map] at e2
      rw [Array.length_toList] at e1
      omega
    have hp := List.getElem?_eq_getElem il
    generalize L[i] = p at hp
    have pm := List.mem_of_getElem? hp
    have live := slot_live R.tab.ris hi
    have tail : wpAny (model P w) A (searchRest a (.ref x) (N.hf k) true f es t (way t.mask (N.hf k) (c + q)) i (wayP t.mask (N.hf k) (c + (q + 1)))) Q E s := by
      unfold searchRest
      rw [entries_at R.ents hp]
      dsimp only
      refine wpAny_bind (wpAny_holding (N.eq_ hu (R.all p pm) hx ?_))
      refine wpAny_bind (wpAny_setState_of ho hd R.fit ?_)
      dsimp only
      by_cases e : p.2 = k
      · exact wp_if_pos (by simp [e]) (wpAny_pure (yes (List.mem_map.mpr ⟨p, pm, e⟩)))
      · refine wp_if_neg (by simp [e]) ?_
        try refine wpAny_bind (wpAny_pure ?_)
        rw [sameMem]
        dsimp only
        simp only [if_true, live, entries_at R.ents hp]
        refine wpAny_bind (wpAny_isSame_ref_self (wpAny_bind (wpAny_pure ?_)))
        simp only [if_true]
        refine wp_if_neg (by simp [e]) ?_
        refine ih (K - (c + (q + 1))) (by omega) (c + (q + 1)) f _ rfl (by omega) (by omega) rfl fun i' p' hp' hk' => ?_
        obtain ⟨d, d1, d2, d3⟩ := ahead i' p' hp' hk'
        refine ⟨d, ?_, d2, d3⟩
        have n1 : ¬ d < c + q := fun z => before (d - c) i' (by omega) (by rw [J, show c + (d - c) = d by omega]; exact d3) ((at_h i' p' hp').trans (congrArg N.hf hk'))
        have n2 : d ≠ c + q := fun z => by
          rw [z] at d3
          have l2 := slot_live R.tab.ris d3
          rw [live] at l2
          cases l2
          rw [hp] at hp'
          cases hp'
          exact e hk'
        omega
    by_cases hl : t.led = true
    · refine wp_if_neg (by simp [hl]) ?_
      try refine wpAny_bind (wpAny_pure ?_)
      exact tail
    · refine wp_if_pos (by simp [hl]) ?_
      refine wpAny_bind (N.unseen hx (fun y hy => ?_) ?_)
      · obtain ⟨e, he, rfl⟩ := List.mem_map.mp hy
        have he : e ∈ es.toList := by
          have : e ∈ es ∧ e.1 = N.hf k := by simpa using he
          simpa using this.1
        rw [R.ents] at he
        obtain ⟨p', hp', rfl⟩ := List.mem_map.mp he
        exact ⟨p'.2, p'.1, rfl, R.all p' hp'⟩
      · refine wp_if_neg (by decide) ?_
        try refine wpAny_bind (wpAny_pure ?_)
        exact tail
  · have met' : t.probe (fun i => (es[i]?.map (·.1)).getD 0) (N.hf k) (st.getD (t.probeStart (N.hf k))) = some (.empty (way t.mask (N.hf k) K) none) := by
      have e : way t.mask (N.hf k) K = (nth t.mask (wayP t.mask (N.hf k) c) (K - c)).j := by rw [J, end_]
      rw [hst, e]
      exact met
    rw [met']
    dsimp only
    refine wpAny_pure (no fun hk => ?_)
    obtain ⟨p, pm, e⟩ := List.mem_map.mp hk
    obtain ⟨i, hi, ei⟩ := List.getElem_of_mem pm
    have hp : L[i]? = some p := by rw [List.getElem?_eq_getElem hi, ei]
    obtain ⟨d, d1, d2, d3⟩ := ahead i p hp e
    exact none_ (d - c) i (by omega) (by rw [J, show c + (d - c) = d by omega]; exact d3) ((at_h i p hp).trans (congrArg N.hf e))
theorem search {A : Around} {E : Value → Shared → Prop} {s : Shared} (R : KSet N s.heap a L es ep t) {x : Addr} {k : κ} (hx : N.at_ s.heap k x) (hu : A.units < cLine) {Q : SetFound → Shared → Prop} (yes : k ∈ L.map (·.2) → Q (.there none) s)
    (no : ∀ K, Ask N L t k K → k ∉ L.map (·.2) → Q (.free (way t.mask (N.hf k) K) false) s) : wpAny (model P w) A (setSearch a (.ref x) (N.hf k) true) Q E s := by
  have rm := R.room
  obtain ⟨K, k1, k2, k3⟩ := R.tab.first (by rw [List.length_map]; omega) (N.hf k)
  have W : Ask N L t k K := ⟨k1, k2, k3⟩
  have small : K < 100000 := by
    have : 10 * SetTable.turns t.mask ≤ 1420 := by
      unfold SetTable.turns
      rcases R.tab.mok with e | e | e <;> omega
    omega
  unfold setSearch
  refine seek R hx hu W yes (no K W) (K - 0) 0 100000 none rfl (by omega) (Nat.zero_le _) rfl fun i p hp hk => ?_
  have il : i < t.place.toList.length := by
    have e1 := (List.getElem?_eq_some_iff.mp hp).1
    have e2 := R.tab.sz
    rw [List.length_map] at e2
    rw [Array.length_toList]
    omega
  have hj := List.getElem?_eq_getElem il
  obtain ⟨d, d1, d2⟩ := R.tab.before k2 (i := i) (by rw [List.getElem?_map, hp, ← hk]; rfl) hj
  exact ⟨d, Nat.zero_le _, d1, by rw [hj, d2]⟩
/-! ### laid anew -/
theorem filterMap_ix {α : Type} (L : List α) : ∀ n, n ≤ L.length → (List.range n).filterMap (fun i => L[i]?) = L.take n
  | 0, _ => rfl
  | n + 1, h => by
    have hl : n < L.length := h
    have e := List.getElem?_eq_getElem hl
    rw [List.range_succ, List.filterMap_append, filterMap_ix L n (Nat.le_of_lt hl), List.take_add_one, e]
    simp [List.filterMap, e]
theorem reorder (order : List Nat) (hs : es.toList = entries N L) (hp : ∀ i ∈ order, i < L.length) :
    order.filterMap (fun i => es[i]?) = entries N (order.filterMap fun i => L[i]?) ∧ ((order.filterMap fun i => L[i]?).map fun p => N.hf p.2) = order.map fun i => (es.map (·.1)).getD i 0 := by
  induction order with
  | nil => exact ⟨rfl, rfl⟩
  | cons i r ih =>
    have hi := hp i List.mem_cons_self
    obtain ⟨e1, e2⟩ := ih fun j hj => hp j (List.mem_cons_of_mem _ hj)
    have g := List.getElem?_eq_getElem hi
    have ge := entries_at hs g
    refine ⟨?_, ?_⟩
    · rw [List.filterMap_cons_some ge, List.filterMap_cons_some g, e1]
      rfl
    · rw [List.filterMap_cons_some g, List.map_cons, List.map_cons, e2]
      congr 1
      have e5 : (es.map (·.1))[i]? = some (N.hf (L[i]).2) := by
        rw [Array.getElem?_map, ge]
        rfl
      simp [Array.getD_eq_getD_getElem?, e5]
theorem relay {A : Around} {E : Value → Shared → Prop} {s : Shared} {o : Obj} (ho : s.heap.get? a = some o) (hex : o.ExactSet) (hd : o.data = .set es ep t) (he : es.toList = entries N L) (hz : t.place.size = es.size) (hdm : t.dummies = #[]) (hle : es.size ≤ t.mask)
    (once : (L.map (·.2)).Nodup) (all : ∀ p ∈ L, N.at_ s.heap p.2 p.1) (ld : w.params.followText "set-order" = true ∨ t.led = true) (few : L.length < 64) {want M : Nat}
    (hw : SetTable.sizeAbove want - 1 = M) (hM : MaskOk M) (h128 : SetTable.sizeAbove want ≤ 128) (room : L.length * 5 < M * 3) {Q : Unit → Shared → Prop}
    (q : ∀ h' L' es' ep' t', Heap.SameBut a s.heap h' → KSet N h' a L' es' ep' t' → L'.Perm L → Q () { s with heap := h' }) : wpAny (model P w) A (setRelay a want) Q E s := by
  have ln := entries_len he
  obtain ⟨t', order, e, hp, T, em, el, epl, ed⟩ := relaid_ok t (hs := es.map (·.1)) (wanted := want) hw hM (by rw [Array.size_map, ln]; omega)
  rw [Array.size_map, ln] at hp
  obtain ⟨r1, r2⟩ := reorder order.toList he fun i hi => List.mem_range.mp (hp.mem_iff.mp hi)
  rw [← r2] at T
  have pm : (order.toList.filterMap fun i => L[i]?).Perm L := by
    have := hp.filterMap fun i => L[i]?
    rw [filterMap_ix L _ (Nat.le_refl _), List.take_length] at this
    exact this
  generalize (order.toList.filterMap fun i => L[i]?) = L2 at r1 T pm
  have r1 : (order.filterMap (es[·]?)).toList = entries N L2 := by
    rw [Array.toList_filterMap]
    exact r1
  have hs2 : (order.filterMap (es[·]?)).size = es.size := by rw [entries_len r1, pm.length_eq, ln]
  rw [setRelay_eq]
  refine wpAny_bind (wpAny_setState_of ho hd (fits_by hz hdm hle) ?_)
  dsimp only
  refine wp_if_neg (by rw [sizeLine_eq]; omega) ?_
  try refine wpAny_bind (wpAny_pure ?_)
  rw [e]
  dsimp only
  refine wpAny_bind ?_
  refine wp_if_neg (by rw [hs2]; simp) ?_
  try refine wpAny_bind (wpAny_pure ?_)
  refine wpAny_pure ?_
  dsimp only
  refine wpAny_storeSet_of ho hd ?_ (by rw [hs2, ln, sizeLine_eq]; omega)
  have sb : Heap.SameBut a s.heap (s.heap.update a (Obj.putSet (order.filterMap (es[·]?)) t')) := Heap.SameBut.update ..
  exact q _ L2 _ (ep + 1) t' sb ⟨⟨_, store_at ho hd, ⟨hex.1, hex.2.1, hex.2.2⟩, rfl⟩, r1, T, (pm.map (·.2)).nodup_iff.mpr once, fun p hm => N.stays (all p (pm.mem_iff.mp hm)) ho hd sb, by rw [el]; exact ld, by rw [pm.length_eq, em]; exact room, by rw [pm.length_eq]; exact few⟩ pm
/-! ### adding -/
theorem add_key {A : Around} {E : Value → Shared → Prop} {s : Shared} (R : KSet N s.heap a L es ep t) {x : Addr} {k : κ} (hx : N.at_ s.heap k x) (hu : A.units < cLine) (few : L.length + 1 < 64) {Q : Bool → Shared → Prop}
    (q : ∀ b h' L' es' ep' t', Heap.SameBut a s.heap h' → KSet N h' a L' es' ep' t' → (k ∈ L.map (·.2) → L' = L) → (k ∉ L.map (·.2) → L'.Perm ((x, k) :: L)) → Q b { s with heap := h' }) :
    wpAny (model P w) A (setAddHashed a (.ref x) (N.hf k)) Q E s := by
  obtain ⟨o, ho, hex, hd⟩ := R.obj
  have ln := entries_len R.ents
  have rm := R.room
  unfold setAddHashed
  refine wpAny_holding ?_
  rw [show (100000 : Nat) = 99999 + 1 from rfl, setAddHashedIn_succ]
  refine wpAny_bind (wpAny_setState_of ho hd R.fit ?_)
  dsimp only
  refine wp_if_neg (by simp [byScan, Value.scannable]) ?_
  try refine wpAny_bind (wpAny_pure ?_)
  refine wpAny_bind (search R hx hu (fun hm => ?_) fun K W hm => ?_)
  · exact wpAny_pure (q false s.heap L es ep t (Heap.SameBut.refl a s.heap) R (fun _ => rfl) fun z => absurd hm z)
  · dsimp only
    refine wpAny_bind (wpAny_setState_of ho hd R.fit ?_)
    dsimp only
    obtain ⟨q1, q2, q3, q4, q5, q6, _, _, q9⟩ := R.tab.put W.empty W.full
    generalize t.put (way t.mask (N.hf k) K) = tp at q1 q3 q4 q5 q9 ⊢
    obtain ⟨t0, i⟩ := tp
    dsimp only at q1 q3 q4 q5 q9 ⊢
    subst q1
    generalize SetTable.below t.place (way t.mask (N.hf k) K) = i at q2 q3 ⊢
    have either : ∀ (r : Bool), ∃ t1 : SetTable, (if r = true then t0 else { t0 with plain := false }) = t1 ∧ t1.place = t0.place ∧ t1.dummies = t0.dummies ∧ t1.mask = t0.mask ∧ t1.led = t0.led ∧ t1.fill = t0.fill := fun r => by
      cases r
      · exact ⟨_, rfl, rfl, rfl, rfl, rfl, rfl⟩
      · exact ⟨_, rfl, rfl, rfl, rfl, rfl, rfl⟩
    have goOn : ∀ r, wpAny (model P w) A (do
        storeSet a (SetTable.insertAt es i (N.hf k, Value.ref x)) (if r = true then t0 else { t0 with plain := false })
        if !false && (if r = true then t0 else { t0 with plain := false }).tooFull then setRelay a (SetTable.grown (es.size + 1))
        return true) Q E s := fun r => ?_
    · by_cases hpl : t0.plain = true
      · first
          | (refine wpAny_bind ?_; refine wp_if_pos hpl ?_; exact N.byVal hx goOn)
          | exact wp_if_pos hpl (wpAny_bind (N.byVal hx goOn))
      · first
          | (refine wpAny_bind ?_; refine wp_if_neg hpl ?_; exact wpAny_pure (goOn true))
          | exact wp_if_neg hpl (wpAny_bind (wpAny_pure (goOn true)))
    obtain ⟨t1, et, f1, f2, f3, f4, f5⟩ := either r
    rw [et]
    have q3 : TabOk t1 _ := ⟨by rw [f1]; exact q3.ris, by rw [f2]; exact q3.dm, by rw [f1]; exact q3.sz, by rw [f3]; exact q3.mok, by rw [f1, f3]; exact q3.bd, by rw [f1, f3]; exact q3.reach⟩
    rw [← f3] at q4
    rw [← f4] at q5
    rw [← f5] at q9
    clear f1 f2 f3 f4 f5 et either
    have he : (SetTable.insertAt es i (N.hf k, Value.ref x)).toList = entries N (L.take i ++ (x, k) :: L.drop i) := by
      rw [SetTable.toList_insertAt, R.ents]
      simp only [entries, List.map_append, List.map_cons, List.map_take, List.map_drop]
    have pm := put_perm L i (x, k)
    rw [show (L.map fun p => N.hf p.2).take i ++ N.hf k :: (L.map fun p => N.hf p.2).drop i = (L.take i ++ (x, k) :: L.drop i).map (fun p => N.hf p.2) by simp only [List.map_append, List.map_cons, List.map_take, List.map_drop]] at q3
    generalize SetTable.insertAt es i (N.hf k, Value.ref x) = es1 at he ⊢
    generalize L.take i ++ (x, k) :: L.drop i = L1 at pm q3 he
    have l1 : L1.length = L.length + 1 := pm.length_eq
    have z1 : es1.size = L.length + 1 := by rw [entries_len he, l1]
    have once1 : (L1.map (·.2)).Nodup := (pm.map (·.2)).nodup_iff.mpr (List.nodup_cons.mpr ⟨hm, R.once⟩)
    refine wpAny_bind (wpAny_storeSet_of ho hd ?_ (by rw [z1, sizeLine_eq]; omega))
    have sb : Heap.SameBut a s.heap (s.heap.update a (Obj.putSet es1 t1)) := Heap.SameBut.update ..
    have ho1 := store_at (es' := es1) (t' := t1) ho hd
    generalize s.heap.update a (Obj.putSet es1 t1) = h1 at sb ho1 ⊢
    have all1 : ∀ p ∈ L1, N.at_ h1 p.2 p.1 := fun p hp => by
      rcases List.mem_cons.mp (pm.mem_iff.mp hp) with rfl | hp
      · exact N.stays hx ho hd sb
      · exact N.stays (R.all p hp) ho hd sb
    have ld1 : w.params.followText "set-order" = true ∨ t1.led = true := by rw [q5]; exact R.ld
    have full : t1.tooFull = true ↔ (L.length + 1) * 5 ≥ t.mask * 3 := by
      unfold SetTable.tooFull
      rw [decide_eq_true_eq, q9, List.length_map, q4]
    by_cases hf : t1.tooFull = true
    · first
        | (refine wpAny_bind ?_; refine wp_if_pos (by simp [hf]) ?_)
        | (refine wp_if_pos (by simp [hf]) ?_; refine wpAny_bind ?_)
      have hf := full.mp hf
      have sz1 : t1.place.size = es1.size := by
        have := q3.sz
        rw [List.length_map, l1] at this
        rw [this, z1]
      have two : (t.mask = 7 ∧ L.length = 4) ∨ (t.mask = 31 ∧ L.length = 18) := by
        rcases R.tab.mok with e | e | e <;> rw [e] at hf rm <;> omega
      rw [ln]
      have grow : ∀ M, SetTable.sizeAbove (SetTable.grown (L.length + 1)) - 1 = M → MaskOk M → SetTable.sizeAbove (SetTable.grown (L.length + 1)) ≤ 128 → (L.length + 1) * 5 < M * 3 →
          wpAny (model P w) A (setRelay a (SetTable.grown (L.length + 1))) (fun _ s' => wpAny (model P w) A (pure true) Q E s') E { s with heap := h1 } := fun M g1 g2 g3 g4 =>
        relay (s := { s with heap := h1 }) ho1 ⟨hex.1, hex.2.1, hex.2.2⟩ rfl he sz1 q3.dm (by rw [z1, q4]; rcases two with ⟨_, _⟩ | ⟨_, _⟩ <;> omega) once1 all1 ld1 (by omega) g1 g2 g3 (by rw [l1]; exact g4)
          fun h2 L2 es2 ep2 t2 sb2 R2 pm2 => wpAny_pure (q true h2 L2 es2 ep2 t2 (sb.trans sb2) R2 (fun z => absurd z hm) fun _ => pm2.trans pm)
      rcases two with ⟨_, e⟩ | ⟨_, e⟩
      · exact grow 31 (by rw [e, size_20]) (.inr (.inl rfl)) (by rw [e, size_20]; decide) (by omega)
      · exact grow 127 (by rw [e, size_76]) (.inr (.inr rfl)) (by rw [e, size_76]; decide) (by omega)
    · first
        | refine wp_if_neg (by simp [hf]) ?_
        | (refine wpAny_bind ?_; refine wp_if_neg (by simp [hf]) ?_; refine wpAny_pure ?_)
      have hf : ¬ (L.length + 1) * 5 ≥ t.mask * 3 := fun z => hf (full.mpr z)
      exact wpAny_pure (q true h1 L1 es1 (ep + 1) t1 sb ⟨⟨_, ho1, ⟨hex.1, hex.2.1, hex.2.2⟩, rfl⟩, he, q3, once1, all1, ld1, by rw [l1, q4]; omega, by omega⟩ (fun z => absurd z hm) fun _ => pm)
theorem fresh_set {h : Heap} (ho : h.get? a = some { cls := .type "set", dict := none, data := .set #[] 0 (.fresh 0 0 (!w.params.followText "set-order")) }) : KSet N h a [] #[] 0 (.fresh 0 0 (!w.params.followText "set-order")) := by
  refine ⟨⟨_, ho, ⟨rfl, rfl, rfl⟩, rfl⟩, rfl, ⟨?_, rfl, rfl, .inl rfl, fun x h => ?_, fun i h j e => ?_⟩, List.nodup_nil, fun p h => ?_, ?_, by show 0 * 5 < 7 * 3; decide, by show 0 < 64; decide⟩
  · exact .nil
  · cases h
  · cases e
  · cases h
  · cases w.params.followText "set-order"
    · exact .inr rfl
    · exact .inl rfl
end
/-! ### tuples of ints and texts -/
section
variable {P : Program} {w : World}
theorem items_plain {ks : List Key} {vs : List Value} (h : ItemsAre (mixKind P w) ks vs) : ∀ v ∈ vs, (∃ i t, v = Value.int i t) ∨ ∃ x t, v = Value.str x t := by
  induction h with
  | nil => intro v hv; cases hv
  | cons h1 _ ih =>
    intro v hv
    rcases List.mem_cons.mp hv with rfl | hv
    · rcases keyIs_shape h1 with ⟨i, t, _, e⟩ | ⟨x, t, _, e⟩
      · exact .inl ⟨i, t, e⟩
      · exact .inr ⟨x, t, e⟩
    · exact ih v hv
theorem plain_cls {v : Value} (h : (∃ i t, v = Value.int i t) ∨ ∃ x t, v = Value.str x t) (n : Nat) : ofAClassStatement n v = pure false := by
  rcases h with ⟨i, t, rfl⟩ | ⟨x, t, rfl⟩ <;> cases n <;> rfl
theorem plain_hash {v : Value} (h : (∃ i t, v = Value.int i t) ∨ ∃ x t, v = Value.str x t) (n : Nat) : ∃ r, hashByValue n v = pure r := by
  rcases h with ⟨i, t, rfl⟩ | ⟨x, t, rfl⟩
  · exact ⟨_, hashByValue_scannable n rfl⟩
  · exact ⟨_, hashByValue_scannable n rfl⟩
theorem tup_cls {A : Around} {E : Value → Shared → Prop} {s : Shared} {k : List Key} {b : Addr} {Q : Bool → Shared → Prop} (hk : IsTupleKey (mixKind P w) s.heap k b) (q : Q false s) : wpAny (model P w) A (ofAClassStatement 8 (.ref b)) Q E s := by
  have ty := hk.typeIs
  obtain ⟨o, its, n, ho, _, hd, hi⟩ := hk
  unfold ofAClassStatement
  refine wpAny_bind (wpAny_typeOf ty ?_)
  dsimp only
  simp only [show (("tuple" : String) == "tuple") = true by decide, if_true, Bool.not_true, Bool.false_eq_true, if_false]
  try refine wpAny_bind (wpAny_pure ?_)
  try simp only [Bool.not_true, Bool.false_eq_true, if_false]
  show wpAny _ _ (seqItems? (.ref b) >>= _) _ _ s
  refine wpAny_bind (wpAny_seqItems ho hd ?_)
  dsimp only
  refine wpAny_bind ?_
  show wpAny _ _ (forIn its _ _) _ _ s
  rw [← Array.forIn_toList]
  refine wpAny_forIn_list _ (fun rest r s' => r.1 = none ∧ s' = s ∧ ∀ v ∈ rest, (∃ i t, v = Value.int i t) ∨ ∃ x t, v = Value.str x t) _ ?_ ?_ _ _ ⟨rfl, rfl, items_plain hi⟩
  · rintro v rest r s' ⟨_, rfl, al⟩
    rw [plain_cls (al v List.mem_cons_self)]
    refine wpAny_bind (wpAny_pure ?_)
    simp only [Bool.false_eq_true, if_false]
    exact wpAny_pure ⟨rfl, rfl, fun u hu => al u (List.mem_cons_of_mem _ hu)⟩
  · rintro ⟨r1, r2⟩ s' ⟨hr, rfl, _⟩
    simp only at hr
    subst hr
    exact wpAny_pure q
theorem tup_byVal {A : Around} {E : Value → Shared → Prop} {s : Shared} {k : List Key} {b : Addr} {Q : Bool → Shared → Prop} (hk : IsTupleKey (mixKind P w) s.heap k b) (q : ∀ r, Q r s) : wpAny (model P w) A (hashByValue 8 (.ref b)) Q E s := by
  have ty := hk.typeIs
  obtain ⟨o, its, n, ho, _, hd, hi⟩ := hk
  unfold hashByValue
  refine wpAny_bind (wpAny_specialOf ty F.slot_tuple_hash.lookup ?_)
  show wpAny _ _ (seqItems? (.ref b) >>= _) _ _ s
  refine wpAny_bind (wpAny_seqItems ho hd ?_)
  refine wpAny_bind ?_
  show wpAny _ _ (forIn its _ _) _ _ s
  rw [← Array.forIn_toList]
  refine wpAny_forIn_list _ (fun rest r s' => s' = s ∧ ∀ v ∈ rest, (∃ i t, v = Value.int i t) ∨ ∃ x t, v = Value.str x t) _ ?_ ?_ _ _ ⟨rfl, items_plain hi⟩
  · rintro v rest r s' ⟨rfl, al⟩
    obtain ⟨c, e⟩ := plain_hash (al v List.mem_cons_self) 7
    rw [e]
    refine wpAny_bind (wpAny_pure ?_)
    cases c
    · simp only [Bool.not_false, if_true]
      exact wpAny_pure (wpAny_pure (q false))
    · simp only [Bool.not_true, Bool.false_eq_true, if_false]
      exact wpAny_pure ⟨rfl, fun u hu => al u (List.mem_cons_of_mem _ hu)⟩
  · rintro ⟨r1, r2⟩ s' ⟨rfl, _⟩
    cases r1
    · exact wpAny_pure (q _)
    · exact wpAny_pure (q _)
theorem tup_unseen {A : Around} {E : Value → Shared → Prop} {s : Shared} {k : List Key} {b : Addr} {ys : List Value} {Q : Bool → Shared → Prop} (hk : IsTupleKey (mixKind P w) s.heap k b) (hy : ∀ y ∈ ys, ∃ l c, y = Value.ref c ∧ IsTupleKey (mixKind P w) s.heap l c) (q : Q false s) :
    wpAny (model P w) A (searchCouldBeSeen (.ref b) ys) Q E s := by
  unfold searchCouldBeSeen
  refine wpAny_bind (wpAny_forIn_list _ (fun rest r s' => r.1 = none ∧ s' = s ∧ ∀ y ∈ rest, ∃ l c, y = Value.ref c ∧ IsTupleKey (mixKind P w) s.heap l c) _ ?_ ?_ _ _ ⟨rfl, rfl, hy⟩)
  · rintro v rest r s' ⟨_, rfl, al⟩
    obtain ⟨l, c, rfl, hc⟩ := al v List.mem_cons_self
    have more : ∀ y ∈ rest, ∃ l c, y = Value.ref c ∧ IsTupleKey (mixKind P w) s'.heap l c := fun u hu => al u (List.mem_cons_of_mem _ hu)
    dsimp only
    by_cases hv : (b == c || (carriedByValue (.ref b) && carriedByValue (.ref c))) = true
    · exact wp_if_pos hv (wpAny_pure ⟨rfl, rfl, more⟩)
    · refine wp_if_neg hv (wpAny_bind (wpAny_eqIsQuiet_tuple hk ?_))
      simp only [Bool.not_true, Bool.false_eq_true, if_false]
      refine wpAny_bind (wpAny_eqIsQuiet_tuple hc ?_)
      simp only [Bool.not_true, Bool.false_eq_true, if_false]
      refine wpAny_bind (tup_cls hk ?_)
      simp only [Bool.false_eq_true, if_false]
      refine wpAny_bind (tup_cls hc ?_)
      simp only [Bool.false_eq_true, if_false]
      exact wpAny_pure ⟨rfl, rfl, more⟩
  · rintro ⟨r1, r2⟩ s' ⟨hr, rfl, _⟩
    simp only at hr
    subst hr
    exact wpAny_pure q
/-- tuples of ints and texts are known by what they hold -/
def mixT (P : Program) (w : World) : Known P w (List Key) where
  at_ := fun h k b => IsTupleKey (mixKind P w) h k b
  hf := tupleKeyHash (mixKind P w)
  eq_ := fun hu hb hc q => wpAny_eqBool_tuple hu hb hc q
  unseen := fun hb hy q => tup_unseen hb hy q
  byVal := fun hb q => tup_byVal hb q
  stays := fun {h h' k a b o es ep t} hb ho hd sb => by
    obtain ⟨o', its, n, e, c, d, i⟩ := hb
    have ne : b ≠ a := by
      rintro rfl
      rw [ho] at e
      cases e
      rw [hd] at d
      cases d
    exact ⟨o', its, n, (sb.2 b ne).trans e, c, d, i⟩
  keeps := fun {h h' k b} hb hk => by
    obtain ⟨o', its, n, e, c, d, i⟩ := hb
    exact ⟨o', its, n, hk b o' e, c, d, i⟩
end
end Fb

/-! Part S2: set comprehensions of tuples of ints and texts, and how many a set has. -/
namespace Fb
open PySem PySem.Spec PyProof.Rows L2
abbrev Keyed := List (Addr × List Key)
/-- what the set's object tells by itself -/
def MSet (P : Program) (w : World) (h : Heap) (a : Addr) (L : Keyed) : Prop := ∃ es ep t, (∃ o, h.get? a = some o ∧ o.ExactSet ∧ o.data = .set es ep t) ∧ es.toList = entries (mixT P w) L ∧ TabOk t (L.map fun p => (mixT P w).hf p.2) ∧ (L.map (·.2)).Nodup ∧
  (w.params.followText "set-order" = true ∨ t.led = true) ∧ L.length * 5 < t.mask * 3 ∧ L.length < 64
def MSetO (P : Program) (w : World) (a : Addr) (L : Keyed) : HO := .ext fun h => MSet P w h a L
theorem KSet.bare {P : Program} {w : World} {h : Heap} {a : Addr} {L : Keyed} {es : Array (Int × Value)} {ep : Nat} {t : SetTable} (R : KSet (mixT P w) h a L es ep t) : MSet P w h a L := ⟨es, ep, t, R.obj, R.ents, R.tab, R.once, R.ld, R.room, R.few⟩
theorem MSet.with {P : Program} {w : World} {h : Heap} {a : Addr} {L : Keyed} (R : MSet P w h a L) (al : ∀ p ∈ L, (mixT P w).at_ h p.2 p.1) : ∃ es ep t, KSet (mixT P w) h a L es ep t := by
  obtain ⟨es, ep, t, r1, r2, r3, r4, r5, r6, r7⟩ := R
  exact ⟨es, ep, t, r1, r2, r3, r4, al, r5, r6, r7⟩
theorem MSet.ok {P : Program} {w : World} {H : Hp} {h : Heap} {a : Addr} {L : Keyed} (R : MSet P w h a L) : ObjOk P w H h a (MSetO P w a L) := by
  have ⟨_, _, _, ⟨o, ho, _⟩, _⟩ := R
  refine ⟨R, ⟨o, ho⟩, fun h1 h2 p k => ?_⟩
  obtain ⟨es, ep, t, ⟨o', ho', r⟩, q⟩ := (show MSet P w h1 a L from p)
  exact ⟨es, ep, t, ⟨o', k o' ho', r⟩, q⟩
theorem keys_of {P : Program} {w : World} : ∀ {ks : List Key} {us : List Value}, Vals (ks.map kV) us → ItemsAre (mixKind P w) ks us
  | [], _, .nil => .nil
  | .inl i :: ks, _, .cons r q => by
    obtain ⟨t, rfl⟩ := r
    exact .cons (by show Value.isInt i (Value.int i t) = true; simp [Value.isInt]) (keys_of q)
  | .inr x :: ks, _, .cons r q => by
    obtain ⟨t, rfl⟩ := r
    exact .cons (by show Value.isStrOf x (Value.str x t) = true; simp [Value.isStrOf]) (keys_of q)
section
variable {X : Cx} {pins : List (Addr × Obj)} {σ : L2.St} {H : Hp} {s : Shared}
theorem mix_at (I : Inv X pins σ H s) {b : Addr} {k : List Key} (h : H b = some (.tup (k.map kV))) : (mixT X.prog X.w).at_ s.heap k b := by
  obtain ⟨_, its, r, o, ho, hc, n, hd⟩ := (show ObjOk X.prog X.w H s.heap b (.tup (k.map kV)) from I.hok b _ h)
  exact ⟨o, its.toArray, n, ho, hc, hd, by simpa using keys_of r⟩
/-- set.add -/
theorem add_mix {A : Around} {E : Value → Shared → Prop} {D b : Addr} {L : Keyed} {k : List Key} {Q : Value → Shared → Prop} (hA : A.units + 1 < cLine) (I : Inv X pins σ H s) (hD : H D = some (MSetO X.prog X.w D L)) (hb : H b = some (.tup (k.map kV))) (al : ∀ p ∈ L, H p.1 = some (.tup (p.2.map kV))) (few : L.length + 1 < 64)
    (q : ∀ s' L', (k ∈ L.map (·.2) → L' = L) → (k ∉ L.map (·.2) → L'.Perm ((b, k) :: L)) → Inv X pins σ (upd H D (MSetO X.prog X.w D L')) s' → Q .none s') : wpAny (model X.prog X.w) A (call (.builtin "set.add") [.ref D, .ref b]) Q E s := by
  obtain ⟨es, ep, t, R⟩ := MSet.with (I.hok D _ hD).1 fun p hp => mix_at I (al p hp)
  have kb := mix_at I hb
  obtain ⟨o, ho, hex, hd⟩ := R.obj
  have ty : s.TypeIs (.ref D) "set" := ⟨o, ho, hex.1⟩
  refine wpAny_call_entry F.slot_set_add ty F.entry_set_add ?_ (F.args_set_add_2 _ _)
  unfold Builtin.«set.add» Builtin.Frozenset.oneOther
  simp only [List.isEmpty_nil, bind_assoc]
  unfold Builtin.Frozenset.addrOf setAdd
  refine wpAny_bind (wpAny_pure ?_)
  try dsimp only
  refine wpAny_bind (wpAny_pure ?_)
  try dsimp only
  refine wpAny_bind (wpAny_holding ?_)
  refine wpAny_bind (wpAny_pyHash_tuple (by show A.in1.units < cLine; exact hA) kb ?_)
  refine add_key (N := mixT X.prog X.w) (s := { s with toks := s.toks + (k.length + 1) }) R kb (by show A.in1.units < cLine; exact hA) few fun r h' L' es' ep' t' sb R' y n => ?_
  show wpAny _ _ (ret Value.none) _ _ _
  refine wpAny_pure ⟨_, rfl, q _ L' y n ?_⟩
  have he : ∃ u, h'.get? D = some u := by
    obtain ⟨o', ho', _⟩ := R'.obj
    exact ⟨o', ho'⟩
  exact I.write (e := D) (t' := s.toks + (k.length + 1)) (by rw [hD]; trivial) (.inl rfl) (fun c u hc hu => (sb.2 c hc).trans hu) he R'.bare.ok
end
section
variable {X : Cx}
/-- {elt for target in iter if ..}, elt a tuple of ints and texts -/
def tScM (P : Program) (w : World) (wi : TI) (g : TG) (tt : TT) (te : TE) (vs : List Nat) : TE := fun σ H Q => wi σ H fun J H1 => ∀ D, H1 D = none → ∃ W : Nat → Nat → Hp → Prop, (∃ m, W 0 m (upd H1 D (MSetO P w D []))) ∧ ∀ i m H, W i m H →
  (J.stop i H ∧ Q (.ref D) H) ∨ (J.go i H ∧ ∃ Nx : Hp → Prop, (∀ H', Nx H' → ∃ m', m' < m ∧ W (i + 1) m' H') ∧ ∀ x H', J.yld i H x H' → g x (wipe σ vs) H' fun σ2 H2 => wipe σ2 vs = wipe σ vs ∧ tt σ2 H2 fun b H3 =>
    if b = true then te σ2 H3 fun y H4 => ∃ (c : Addr) (k : List Key) (L : Keyed), y = .ref c ∧ H4 c = some (.tup (k.map kV)) ∧ H4 D = some (MSetO P w D L) ∧ (∀ p ∈ L, H4 p.1 = some (.tup (p.2.map kV))) ∧ L.length + 1 < 64 ∧
      ∀ L', (k ∈ L.map (·.2) → L' = L) → (k ∉ L.map (·.2) → L'.Perm ((c, k) :: L)) → Nx (upd H4 D (MSetO P w D L')) else Nx H3)
theorem mset_new {P : Program} {w : World} {H : Hp} {h : Heap} : ObjOk P w H (h.push { cls := .type "set", dict := none, data := .set #[] 0 (.fresh 0 0 (!w.params.followText "set-order")) }) h.objs.size (MSetO P w h.objs.size []) :=
  (fresh_set (N := mixT P w) (Heap.get?_push_size _ rfl)).bare.ok
theorem pe_scM {elt tg iter : Expr} {ifs : List Expr} {scope : Scope} {own : List (Str × Nat)} {pos : Pos} {wi : TI} {g : TG} {tt : TT} {te : TE} (hu : X.A.units + 1 < cLine) (hc : X.calm = true) (hN : X.N.Nodup) (hi : PI X tg iter wi) (ok : BlkOk X.N X.env.scope scope own)
    (hg : ∀ (s : Shared) (H : Hp) (C : Addr) (cl : List (Str × Addr)) (fp : List Addr), PG (X.blk s H scope (compEnvC scope cl C X.env) fp) tg g)
    (ht : ∀ (s : Shared) (H : Hp) (C : Addr) (cl : List (Str × Addr)) (fp : List Addr), PTs (X.blk s H scope (compEnvC scope cl C X.env) fp) ifs tt)
    (he : ∀ (s : Shared) (H : Hp) (C : Addr) (cl : List (Str × Addr)) (fp : List Addr), PE (X.blk s H scope (compEnvC scope cl C X.env) fp) elt te)
    (hs : ∀ x, foldedSetIterable iter X.env x = pure x := by intro _; rfl) : PE X (.SetComp elt [⟨tg, iter, ifs, 0⟩] scope pos) (tScM X.prog X.w wi g tt te (own.map (·.2))) := by
  refine ⟨fun pins s σ H Q I h => ?_⟩
  rw [PpSet.eval_SetComp]
  have free : ∀ y ∈ scope.names, y.2 = .free → ∃ c, X.env.cells.lookup y.1 = some c := fun y hy e => (ok.free y hy e).elim (fun k => I.ok.has _ (.inl k)) fun k => I.ok.has _ (.inr k)
  refine wpAny_comprehension_free (use := none) rfl hs (closure_ok free) ok.kind (fun y hy e => by rw [ok.uniq y hy, e]) (thn (hi.run pins s σ H _ I h) fun xv s1 hx => thn hx fun itv s2 h2 => ?_)
  obtain ⟨it, fp, tn, J, H2, rfl, I2, T, st2, f2, q⟩ := h2
  refine PpSet.newSet_ok (newEnv_comp ?_)
  have nD : H2 s2.heap.objs.size = none := I2.hok.fresh (Nat.le_refl _)
  obtain ⟨W, ⟨m0, w0⟩, turn⟩ := q _ nD
  have I3 : Inv X pins σ (upd H2 s2.heap.objs.size (MSetO X.prog X.w s2.heap.objs.size [])) { s2 with heap := s2.heap.push { cls := .type "set", dict := none, data := .set #[] 0 (.fresh 0 0 (!X.w.params.followText "set-order")) } } :=
    I2.laid (t' := s2.toks) (fun b o e => Heap.get?_push_of_some _ e) (Nat.le_refl _) mset_new
  have small : ∀ b ∈ fp, b < s2.heap.objs.size := fun b hb => (T.obj _ _ st2 b hb).elim fun o e => Heap.lt_size e.1
  have size3 : (s2.heap.push { cls := .type "set", dict := none, data := .set #[] 0 (.fresh 0 0 (!X.w.params.followText "set-order")) }).objs.size = s2.heap.objs.size + 1 := Heap.size_push ..
  have st3 : tn 0 (s2.heap.push { cls := .type "set", dict := none, data := .set #[] 0 (.fresh 0 0 (!X.w.params.followText "set-order")) }) := T.keep _ _ _ st2 fun b _ o e => Heap.get?_push_of_some _ e
  generalize hD : s2.heap.objs.size = D at *
  generalize hs3 : ({ s2 with heap := s2.heap.push { cls := .type "set", dict := none, data := .set #[] 0 (.fresh 0 0 (!X.w.params.followText "set-order")) } } : Shared) = s3 at *
  have h3 : s3.heap = s2.heap.push { cls := .type "set", dict := none, data := .set #[] 0 (.fresh 0 0 (!X.w.params.followText "set-order")) } := by rw [← hs3]
  have f3 : ∀ b ∈ fp, FpOk X pins (upd H2 D (MSetO X.prog X.w D [])) b ∧ b < s3.heap.objs.size := fun b hb => by
    have l := small b hb
    refine ⟨⟨?_, (f2 b hb).2⟩, by rw [h3, size3]; exact Nat.lt_succ_of_lt l⟩
    rw [upd_ne (Nat.ne_of_lt l)]
    exact (f2 b hb).1
  have I4 := block_start I3 ok hN f3
  have n0 : ∀ b ∈ fp, (upd H2 D (MSetO X.prog X.w D [])) b = none := fun b hb => (f3 b hb).1.1
  generalize hH3 : upd H2 D (MSetO X.prog X.w D []) = H3 at *
  have pg := hg s3 H3 s3.heap.objs.size (cellsFrom (s3.heap.objs.size + 1) scope.names (cloFrom X.env.cells scope.names [])) fp
  have pt := ht s3 H3 s3.heap.objs.size (cellsFrom (s3.heap.objs.size + 1) scope.names (cloFrom X.env.cells scope.names [])) fp
  have pe := he s3 H3 s3.heap.objs.size (cellsFrom (s3.heap.objs.size + 1) scope.names (cloFrom X.env.cells scope.names [])) fp
  have top : (compEnvC scope (cellsFrom (s3.heap.objs.size + 1) scope.names (cloFrom X.env.cells scope.names [])) s3.heap.objs.size X.env).locals = s3.heap.objs.size := rfl
  show codeAny _ _ (.compStart (.SetComp elt [⟨tg, iter, ifs, 0⟩] scope pos) 0 (.ref it) (.ref D) (compEnvC scope (cellsFrom (s3.heap.objs.size + 1) scope.names (cloFrom X.env.cells scope.names [])) s3.heap.objs.size X.env)) _ { s3 with heap := pushCells (s3.heap.push { cls := .type "dict", data := .dict #[] }) scope.names }
  generalize compEnvC scope (cellsFrom (s3.heap.objs.size + 1) scope.names (cloFrom X.env.cells scope.names [])) s3.heap.objs.size X.env = ce at I4 pg pt pe top ⊢
  have st4 : tn 0 ({ s3 with heap := pushCells (s3.heap.push { cls := .type "dict", data := .dict #[] }) scope.names } : Shared).heap := T.keep _ _ _ (h3 ▸ st3) fun b _ o e => pushCells_keeps _ _ _ _ (Heap.get?_push_of_some _ e)
  generalize ({ s3 with heap := pushCells (s3.heap.push { cls := .type "dict", data := .dict #[] }) scope.names } : Shared) = s4 at I4 st4 ⊢
  have fps : ∀ {σ' : L2.St} {H' : Hp} {s' : Shared}, Inv (X.blk s3 H3 scope ce fp) [] σ' H' s' → (∀ b ∈ fp, H' b = none) → ∀ b ∈ fp, FpOk (X.blk s3 H3 scope ce fp) [] H' b := fun {σ' H' s'} I' hn b hb =>
    ⟨hn b hb, (I'.ok.exf b hb).1, I'.ok.exfs b hb, .inl hb, fun x c e => (I'.ok.exf b hb).2 x c e, fun p hp => absurd (show p ∈ ([] : List (Addr × Obj)) ++ [] from hp) (by simp)⟩
  have loop : codeAny (model X.prog X.w) X.A (.compLoop (.SetComp elt [⟨tg, iter, ifs, 0⟩] scope pos) 0 (.ref it) (.ref D) ce) (compPost (model X.prog X.w) X.A X.xe none (EP X pins σ Q) (.ref D) s3.heap.objs.size) s4 := by
    refine PpSet.compLoopS_any (fun n s' => ∃ i H', Inv (X.blk s3 H3 scope ce fp) [] (wipe σ (own.map (·.2))) H' s' ∧ tn i s'.heap ∧ (∀ b ∈ fp, H' b = none) ∧ W i n H') ?_ m0 ⟨0, H3, I4, st4, n0, w0⟩
    rintro n s5 ⟨i, H5, I5, st5, n5, w5⟩
    rcases turn i n H5 w5 with ⟨stop, fin⟩ | ⟨go, Nx, next, step⟩
    · refine thnF (T.done (X.blk s3 H3 scope ce fp) rfl rfl rfl hc i [] s5 _ H5 (fun _ _ => False) I5 (fps I5 n5) st5 stop) fun r s6 ⟨hr, I6⟩ => ?_
      subst hr
      have I7 : Inv X pins σ H5 s6 := I3.call' (ch := fp) I6.os I6.base I6.hok I6.bare fun b hb => let f := (f3 b hb).1; ⟨f.2.2.2.1, f.2.1, f.2.2.2.2.1, f.2.2.2.2.2⟩
      have nC : H5 s3.heap.objs.size = none := by
        have := (show H5 ce.locals = none from I6.free)
        rwa [top] at this
      obtain ⟨m, hn, _⟩ := I6.loc
      have hn : s6.heap.Ns s3.heap.objs.size m := by
        have := (show s6.heap.Ns ce.locals m from hn)
        rwa [top] at this
      obtain ⟨g0, g1, g2, g3, g4, g5⟩ := I3.fpOk (Nat.le_refl _) nC
      exact ⟨m, hn, fun h'' sb => ⟨.ref D, H5, I7.turned (t' := s6.toks) (fun b o hb e => (sb.2 b hb).trans e) g0 g1 g3 g4 g5, rfl, fin⟩⟩
    · refine thnF (T.item (X.blk s3 H3 scope ce fp) rfl rfl rfl hc i [] s5 _ H5 (fun _ _ => False) I5 (fps I5 n5) st5 go) fun r s6 ⟨u, hr, h6⟩ => ?_
      subst hr
      refine thnF h6 fun _ s7 ⟨x, H7, I7, r7, y7, st7, n7⟩ => ?_
      refine thnF (pg.run _ s7 _ H7 x u _ (I7.pinned (fps I7 n7) (T.obj _ _ st7)) r7 (step x H7 y7)) fun _ s8 ⟨σ8, H8, I8, hw8, q8⟩ => ?_
      refine thnF (pt.run _ s8 σ8 H8 _ I8 q8) fun b s9 ⟨H9, I9, q9⟩ => ?_
      have on : ∀ {s' : Shared} {H' : Hp}, Inv (X.blk s3 H3 scope ce fp) ([] ++ pinsAt fp s7.heap) σ8 H' s' → Nx H' → ∃ m, m < n ∧ ∃ i H', Inv (X.blk s3 H3 scope ce fp) [] (wipe σ (own.map (·.2))) H' s' ∧ tn i s'.heap ∧ (∀ b ∈ fp, H' b = none) ∧ W i m H' := fun {s' H'} I' nx => by
        obtain ⟨m', hm, w'⟩ := next H' nx
        have pin : ∀ b ∈ fp, ∀ o, s7.heap.get? b = some o → s'.heap.get? b = some o ∧ H' b = none := fun b hb o e =>
          let z := I'.pin (b, o) (List.mem_append_right _ (List.mem_append_right _ (mem_pinsAt hb e)))
          ⟨z.1, z.2.1⟩
        refine ⟨m', hm, i + 1, H', (I'.unpinned (pins := [])).weak (by rw [← hw8, wipe_length]) (fun j v e => ?_), T.keep _ _ _ st7 fun b hb o e => (pin b hb o e).1, fun b hb => ?_, w'⟩
        · rw [← hw8] at e
          exact (wipe_some e).1
        · obtain ⟨o, e, _⟩ := T.obj _ _ st7 b hb
          exact (pin b hb o e).2
      cases b with
      | false =>
        simp only [Bool.false_eq_true, if_false] at q9 ⊢
        exact on I9 q9
      | true =>
        simp only [if_true] at q9 ⊢
        refine thnF (pe.run _ s9 σ8 H9 _ I9 q9) fun z s10 ⟨yv, H10, I10, r10, c, k, L, ey, ec, eD, al, few, nx⟩ => ?_
        subst ey
        cases r10
        exact add_mix (X := X.blk s3 H3 scope ce fp) hu I10 eD ec al few fun s11 L' y' n' I11 => on I11 (nx L' y' n')
  exact PpSet.codeAny_compStart_set loop (T.self X.A 0 _ _ _ st4 loop)
/-- how many it has -/
theorem call_lenM : CallR X (.builtin "len") (fun xs H Q => ∃ (a : Addr) (L : Keyed), xs = [.ref a] ∧ H a = some (MSetO X.prog X.w a L) ∧ Q (.int L.length) H) := by
  intro pins s σ H xs us Q I r h
  obtain ⟨a, L, rfl, ha, q⟩ := h
  obtain ⟨u, rfl, ru⟩ := vals1 r
  cases ru
  obtain ⟨es, ep, t, ⟨o, ho, hex, hd⟩, he, T, _, _, room, few⟩ := (I.hok a _ ha).1
  have ln := entries_len he
  have sz := T.sz
  rw [List.length_map] at sz
  refine call_len_set ho hex hd (fits_by (by omega) T.dm (by omega)) (by omega) ?_
  refine ⟨.int L.length, H, I.kept (t' := s.toks + 1 + 1) fun _ _ e => e, ⟨s.toks + 1, ?_⟩, q⟩
  rw [ln]
end
end Fb

/-! Part S3: sorted of steps: tuples of a room, a sign and a tuple, no two of the same room and sign. -/
namespace Fb
open PySem PySem.Spec PyProof.Rows L2
/-! ### the order -/
abbrev RS := Int × Str
def rsLt (a b : RS) : Bool := decide (a.1 < b.1) || (decide (a.1 = b.1) && decide (a.2.cps.toList < b.2.cps.toList))
theorem rsLt_iff {a b : RS} : rsLt a b = true ↔ a.1 < b.1 ∨ (a.1 = b.1 ∧ a.2.cps.toList < b.2.cps.toList) := by
  simp [rsLt]
theorem rsLt_irr (a : RS) : rsLt a a = false := by
  cases h : rsLt a a with
  | false => rfl
  | true =>
    rcases rsLt_iff.mp h with h | ⟨_, h⟩
    · omega
    · exact absurd h (List.lt_irrefl _)
theorem rsLt_trans {a b c : RS} (h1 : rsLt a b = true) (h2 : rsLt b c = true) : rsLt a c = true := by
  rcases rsLt_iff.mp h1 with h1 | ⟨e1, h1⟩ <;> rcases rsLt_iff.mp h2 with h2 | ⟨e2, h2⟩ <;> refine rsLt_iff.mpr ?_
  · left; omega
  · left; omega
  · left; omega
  · right; exact ⟨by omega, List.lt_trans h1 h2⟩
theorem str_ext {x y : Str} (h : x.cps.toList = y.cps.toList) : x = y := by
  cases x
  cases y
  congr 1
  exact Array.ext' h
theorem rsLt_total {a b : RS} (h1 : rsLt a b = false) (h2 : rsLt b a = false) : a = b := by
  have n1 : ¬ (a.1 < b.1 ∨ (a.1 = b.1 ∧ a.2.cps.toList < b.2.cps.toList)) := fun h => by rw [rsLt_iff.mpr h] at h1; cases h1
  have n2 : ¬ (b.1 < a.1 ∨ (b.1 = a.1 ∧ b.2.cps.toList < a.2.cps.toList)) := fun h => by rw [rsLt_iff.mpr h] at h2; cases h2
  have e1 : a.1 = b.1 := by
    have : ¬ a.1 < b.1 := fun h => n1 (.inl h)
    have : ¬ b.1 < a.1 := fun h => n2 (.inl h)
    omega
  have l1 : ¬ a.2.cps.toList < b.2.cps.toList := fun h => n1 (.inr ⟨e1, h⟩)
  have l2 : ¬ b.2.cps.toList < a.2.cps.toList := fun h => n2 (.inr ⟨e1.symm, h⟩)
  have e2 : a.2 = b.2 := str_ext (List.le_antisymm (List.not_lt.mp l2) (List.not_lt.mp l1))
  exact Prod.ext e1 e2
/-- how many of l stand before k -/
def rk (l : List RS) (k : RS) : Int := (l.countP fun x => rsLt x k : Nat)
theorem countP_le {α : Type} {p q : α → Bool} : ∀ {l : List α}, (∀ x ∈ l, p x = true → q x = true) → l.countP p ≤ l.countP q
  | [], _ => Nat.le_refl _
  | x :: l, h => by
    have ih := countP_le (p := p) (q := q) (l := l) fun y hy => h y (List.mem_cons_of_mem _ hy)
    have hx := h x List.mem_cons_self
    rw [List.countP_cons, List.countP_cons]
    cases e : p x
    · simp only [Bool.false_eq_true, if_false]
      omega
    · rw [hx e]
      omega
theorem countP_lt {α : Type} {p q : α → Bool} : ∀ {l : List α}, (∀ x ∈ l, p x = true → q x = true) → (∃ x ∈ l, p x = false ∧ q x = true) → l.countP p < l.countP q
  | [], _, h => by simp at h
  | x :: l, h, ⟨y, hy, py, qy⟩ => by
    have le := countP_le (p := p) (q := q) (l := l) fun y hy => h y (List.mem_cons_of_mem _ hy)
    have hx := h x List.mem_cons_self
    rw [List.countP_cons, List.countP_cons]
    rcases List.mem_cons.mp hy with rfl | hy
    · rw [py, qy]
      simp only [Bool.false_eq_true, if_false, if_true]
      omega
    · have lt := countP_lt (p := p) (q := q) (l := l) (fun y hy => h y (List.mem_cons_of_mem _ hy)) ⟨y, hy, py, qy⟩
      cases e : p x
      · simp only [Bool.false_eq_true, if_false]
        omega
      · rw [hx e]
        omega
theorem rk_lt {l : List RS} {a b : RS} (ha : a ∈ l) (hb : b ∈ l) : decide (rk l a < rk l b) = rsLt a b := by
  cases h : rsLt a b with
  | true =>
    refine decide_eq_true ?_
    have := countP_lt (p := fun x => rsLt x a) (q := fun x => rsLt x b) (l := l) (fun x _ hx => rsLt_trans hx h) ⟨a, ha, rsLt_irr a, h⟩
    unfold rk
    omega
  | false =>
    refine decide_eq_false ?_
    have : (l.countP fun x => rsLt x b) ≤ l.countP fun x => rsLt x a := by
      cases h2 : rsLt b a with
      | true => exact countP_le fun x _ hx => rsLt_trans hx h2
      | false => rw [rsLt_total h h2]; exact Nat.le_refl _
    unfold rk
    omega
/-! ### steps in the model's heap -/
section
variable {P : Program} {w : World}
/-- v is a tuple of the room and the sign of k, and a tuple -/
def StepIn (P : Program) (w : World) (h : Heap) (v : Value) (k : RS) : Prop :=
  ∃ (t wa : Addr) (o : Obj) (n : Nat) (t1 t2 : Tok) (ks : List Key), v = .ref t ∧ h.get? t = some o ∧ o.cls = .type "tuple" ∧ o.data = .seq #[.int k.1 t1, .str k.2 t2, .ref wa] n ∧ IsTupleKey (mixKind P w) h ks wa
theorem StepIn.keeps {h h' : Heap} {v : Value} {k : RS} (x : StepIn P w h v k) (kp : ∀ b o, h.get? b = some o → o.cls = .type "tuple" → h'.get? b = some o) : StepIn P w h' v k := by
  obtain ⟨t, wa, o, n, t1, t2, ks, e, ho, hc, hd, o3, it3, n3, ho3, hc3, r3⟩ := x
  exact ⟨t, wa, o, n, t1, t2, ks, e, kp _ _ ho hc, hc, hd, o3, it3, n3, kp _ _ ho3 hc3, hc3, r3⟩
theorem firsts {h : Heap} {kf : Value → RS} : ∀ vs : List Value, (∀ v ∈ vs, StepIn P w h v (kf v)) → ∃ fs : List Value, PySem.W.KatTups h vs fs ∧ fs.length = vs.length ∧ ∀ f ∈ fs, ∃ i t, f = Value.int i t
  | [], _ => ⟨[], PySem.W.KatTups.nil, rfl, fun f hf => by cases hf⟩
  | v :: vs, x => by
    obtain ⟨fs, k, hl, hi⟩ := firsts vs fun u hu => x u (List.mem_cons_of_mem _ hu)
    obtain ⟨t, wa, o, n, t1, t2, ks, rfl, ho, hc, hd, _⟩ := x v List.mem_cons_self
    refine ⟨.int _ t1 :: fs, PySem.W.KatTups.cons ho hc hd rfl k, by rw [List.length_cons, List.length_cons, hl], fun f hf => ?_⟩
    rcases List.mem_cons.mp hf with rfl | hf
    · exact ⟨_, _, rfl⟩
    · exact hi f hf
theorem kind_steps {A : Around} {E : Value → Shared → Prop} {s : Shared} {vs : List Value} {kf : Value → RS} {r : Value → Int} (h2 : 2 ≤ vs.length) (hu : A.units < cLine) (x : ∀ v ∈ vs, StepIn P w s.heap v (kf v)) (one : ∀ v ∈ vs, ∀ u ∈ vs, kf v = kf u → v = u)
    (hr : ∀ v ∈ vs, ∀ u ∈ vs, decide (r v < r u) = rsLt (kf v) (kf u)) (Q : SortKind → Shared → Prop) (h : ∀ κ, TS.Cmp P w A s κ (pairsOf vs) r → Q κ s) : wpAny (model P w) A (keyKind' vs.toArray) Q E s := by
  obtain ⟨fs, k, hl, hi⟩ := firsts vs x
  refine PySem.W.kat_kind (T := Value.type "int") k (by omega) (fun f hf => ?_) rfl (h _ ?_)
  · obtain ⟨i, t, rfl⟩ := hi f hf
    exact PySem.W.Looks.of_pure rfl
  · intro p q hp hq Q' E' hQ
    rw [pairsOf_toList] at hp hq
    have mp := (mem_zip_self hp).2
    have mq := (mem_zip_self hq).2
    have hQ : Q' (rsLt (kf p.1) (kf q.1)) s := by
      rw [← hr _ mp _ mq]
      exact hQ
    have same := one _ mp _ mq
    obtain ⟨t, wa, o, n, t1, t2, ks, e1, ho, hc, hd, kw⟩ := x _ mp
    obtain ⟨t', wa', o', n', t1', t2', ks', e2, ho', hc', hd', kw'⟩ := x _ mq
    rw [e1, e2]
    rw [e1, e2] at same
    have same : kf p.1 = kf q.1 → t = t' := fun e => by
      rw [e1, e2] at e
      have := same e
      cases this
      rfl
    generalize kf p.1 = a at *
    generalize kf q.1 = b at *
    refine PySem.W.kat_lt ho hd ho' hd' ?_
    show PySem.W.KatLex P w A true false Q' [(.int a.1 t1, .int b.1 t1'), (.str a.2 t2, .str b.2 t2'), (.ref wa, .ref wa')] 0 s
    refine PySem.W.kat_cons (wpAny_eqBool_int ?_)
    refine PySem.W.kat_go (fun e => PySem.W.kat_yes ?_) (fun e => PySem.W.kat_no ?_)
    · have e := of_decide_eq_true e
      refine PySem.W.kat_cons (wpAny_eqBool_str ?_)
      refine PySem.W.kat_go (fun e' => PySem.W.kat_yes ?_) (fun e' => PySem.W.kat_no ?_)
      · have e' := of_decide_eq_true e'
        have ab : a = b := Prod.ext e e'
        have tt := same ab
        subst tt
        rw [ho] at ho'
        cases ho'
        rw [hd] at hd'
        have hw : wa = wa' := by
          have := (Data.seq.inj hd').1
          simp at this
          exact this.2.2
        subst hw
        rw [ab, rsLt_irr] at hQ
        refine PySem.W.kat_cons (wpAny_eqBool_tuple hu kw kw ?_)
        refine PySem.W.kat_go (fun _ => PySem.W.kat_yes (PySem.W.kat_nil hQ)) (fun z => ?_)
        rw [decide_eq_true rfl] at z
        cases z
      · show wpAny _ _ (oneLt' false _ _) _ _ _
        refine PySem.W.kat_one _ _ (lt_str ?_)
        have : rsLt a b = decide (a.2.cps.toList < b.2.cps.toList) := by
          unfold rsLt
          rw [decide_eq_false (by omega), decide_eq_true e]
          rfl
        rw [this] at hQ
        exact hQ
    · show wpAny _ _ (oneLt' true _ _) _ _ _
      refine oneLt_int ?_
      have ne : ¬ a.1 = b.1 := by simpa using e
      have : rsLt a b = decide (a.1 < b.1) := by
        unfold rsLt
        rw [decide_eq_false ne, Bool.false_and, Bool.or_false]
      rw [this] at hQ
      exact hQ
theorem sort_steps {A : Around} {E : Value → Shared → Prop} {s : Shared} {a : Addr} {vs : List Value} {n : Nat} {Q : PySem.Fin → Shared → Prop} {kf : Value → RS} (ho : s.heap.get? a = some (seqObj "list" vs.toArray n)) (h64 : vs.length < 64) (hu : A.units < cLine)
    (x : ∀ v ∈ vs, StepIn P w s.heap v (kf v)) (one : ∀ v ∈ vs, ∀ u ∈ vs, kf v = kf u → v = u)
    (h : ∀ out : Array Value, out.toList.Perm vs → out.toList.Pairwise (fun u v => rsLt (kf v) (kf u) = false) → Q (.done (.ret .none)) { s with heap := sortedHeap s.heap a vs out }) : wpAny (model P w) A (Builtin.«list.sort» ⟨[.ref a], []⟩) Q E s := by
  have keep : ∀ b o, s.heap.get? b = some o → o.cls = .type "tuple" → (TS.midHeap s.heap a vs).get? b = some o := fun b o e hc => by
    refine TS.midHeap_old ?_ e
    rintro rfl
    rw [ho] at e
    cases e
    exact absurd (Value.type.inj hc) (by decide)
  have hr : ∀ v ∈ vs, ∀ u ∈ vs, decide (rk (vs.map kf) (kf v) < rk (vs.map kf) (kf u)) = rsLt (kf v) (kf u) := fun v hv u hu => rk_lt (List.mem_map_of_mem hv) (List.mem_map_of_mem hu)
  refine SK.plain_sort (r := fun v => rk (vs.map kf) (kf v)) ho h64 (fun h2 Q' hQ => ?_) fun ps out h1 h2 h3 => ?_
  · exact kind_steps (s := { s with heap := TS.midHeap s.heap a vs }) h2 hu (fun v hv => (x v hv).keeps keep) one hr Q' hQ
  · obtain ⟨p, o⟩ := TS.out_rank (r := fun v => rk (vs.map kf) (kf v)) h1 h2 h3
    refine h out p (List.Pairwise.imp_of_mem (fun {u v} hu hv hle => ?_) o)
    rw [← hr v (p.mem_iff.mp hv) u (p.mem_iff.mp hu)]
    exact decide_eq_false (by omega)
end
section
variable {X : Cx}
theorem step_in {pins : List (Addr × Obj)} {σ : L2.St} {H : Hp} {s : Shared} (I : Inv X pins σ H s) {t wa : Addr} {k : RS} {ks : List Key} (h : H t = some (.tup [.int k.1, .str k.2, .ref wa])) (hw : H wa = some (.tup (ks.map kV))) : StepIn X.prog X.w s.heap (.ref t) k := by
  obtain ⟨_, its, r, o, ho, hc, n, hd⟩ := (show ObjOk X.prog X.w H s.heap t _ from I.hok t _ h)
  cases r with
  | cons r1 r =>
  cases r with
  | cons r2 r =>
  cases r with
  | cons r3 r =>
  cases r
  obtain ⟨t1, rfl⟩ := r1
  obtain ⟨t2, rfl⟩ := r2
  cases r3
  exact ⟨t, wa, o, n, t1, t2, ks, rfl, ho, hc, hd, mix_at I hw⟩
/-- sorted(xs), xs a list of steps, no two of the same room and sign -/
def rSortS (K : PySem.W.Frag) : List V → Hp → VK → Prop := fun vs H Q => ∃ (a : Addr) (xs : List V) (kf : V → RS), vs = [V.ref a] ∧ SqL K H a xs ∧ xs.length < 64 ∧ (∀ x ∈ xs, ∃ t wa ks, x = .ref t ∧ H t = some (.tup [.int (kf x).1, .str (kf x).2, .ref wa]) ∧ H wa = some (.tup (List.map kV ks))) ∧
  (∀ x ∈ xs, ∀ y ∈ xs, kf x = kf y → x = y) ∧ ∀ (ys : List V) (p : Addr), ys.Perm xs → ys.Pairwise (fun x y => rsLt (kf y) (kf x) = false) → H p = none → Q (.ref p) (upd H p (.lst ys))
theorem cr_sortS (hu : X.A.units + 2 < cLine) : CallR X (.builtin "sorted") (rSortS X.K) := by
  intro pins s σ H vs us Q I r h
  obtain ⟨a, xs, kf, rfl, hs, h64, hx, one, q⟩ := h
  obtain ⟨its, rv, hl, hz⟩ := I.list hs
  rw [Vals.ref1 r]
  obtain ⟨e1, e2⟩ := bkV_refs rv fun x m => by
    obtain ⟨t, _, _, e, _⟩ := hx x m
    exact ⟨t, e⟩
  have st : ∀ v ∈ its, StepIn X.prog X.w s.heap v (kf (bkV v)) := fun v hv => by
    obtain ⟨t, rfl⟩ := e2 v hv
    obtain ⟨t', wa, ks, e, h1, h2⟩ := hx (.ref t) (by rw [e1]; exact List.mem_map.mpr ⟨_, hv, rfl⟩)
    cases e
    exact step_in I h1 h2
  have on : ∀ v ∈ its, ∀ u ∈ its, kf (bkV v) = kf (bkV u) → v = u := fun v hv u hu e => by
    have := one (bkV v) (by rw [e1]; exact List.mem_map_of_mem hv) (bkV u) (by rw [e1]; exact List.mem_map_of_mem hu) e
    obtain ⟨t, rfl⟩ := e2 v hv
    obtain ⟨t', rfl⟩ := e2 u hu
    cases this
    rfl
  have n64 : its.length < 64 := by rw [← rv.length]; exact h64
  refine Calls.call_function_entry kind_sorted plain_sorted entry_sorted (args_sorted1 _) ?_
  unfold Builtin.«sorted»
  refine wpAny_bind (m := checkCount "sorted" 1 1 _) (wpAny_pure ?_)
  refine wpAny_bind (collect_list hl.isList ?_ (by rw [sizeLine_eq]; omega))
  refine wpAny_bind (wpAny_newList ?_ (by rw [sizeLine_eq]; omega))
  have sz : ((s.heap.push (seqObj "list" #[] 0)).update s.heap.objs.size (Obj.mapSeq (· ++ its.toArray))).objs.size = s.heap.objs.size + 1 := (Heap.size_update ..).trans (size_push' _ _)
  have new : (((s.heap.push (seqObj "list" #[] 0)).update s.heap.objs.size (Obj.mapSeq (· ++ its.toArray))).push (seqObj "list" its.toArray 0)).get? (s.heap.objs.size + 1) = some (seqObj "list" its.toArray 0) := sz ▸ Heap.get?_push_size _ rfl
  have old : ∀ b o, s.heap.get? b = some o → (((s.heap.push (seqObj "list" #[] 0)).update s.heap.objs.size (Obj.mapSeq (· ++ its.toArray))).push (seqObj "list" its.toArray 0)).get? b = some o := fun b o e => by
    have l : b < s.heap.objs.size := Heap.lt_size e
    rw [Heap.get?_push_ne _ _ _ (by rw [sz]; exact Nat.ne_of_lt (Nat.lt_succ_of_lt l)), Heap.get?_update_ne _ _ _ _ (Nat.ne_of_lt l), Heap.get?_push_ne _ _ _ (Nat.ne_of_lt l)]
    exact e
  show wpAny _ _ _ _ _ { s with heap := ((s.heap.push (seqObj "list" #[] 0)).update s.heap.objs.size (Obj.mapSeq (· ++ its.toArray))).push (seqObj "list" its.toArray 0) }
  rw [sz]
  refine wpAny_bind (wpAny_holding (wpAny_call_entry slot_list_sort ⟨_, new, rfl⟩ entry_list_sort (sort_steps (kf := fun v => kf (bkV v)) new n64 (by show X.A.units + 2 < cLine; exact hu) (fun v hv => (st v hv).keeps fun b o e _ => old b o e) on fun out a1 a2 => ⟨_, rfl, ?_⟩) (args_list_sort _)))
  refine wpAny_pure ⟨_, rfl, ?_⟩
  obtain ⟨ep, he'⟩ := PyProof.Rows.sortedAll_at s.heap its out
  have h3 : ∀ u ∈ out.toList, ∃ a, u = Value.ref a := fun u hu => e2 u (a1.mem_iff.mp hu)
  have hp : (out.toList.map bkV).Perm xs := by
    rw [e1]
    exact a1.map bkV
  refine ⟨.ref _, upd H (s.heap.objs.size + 1) (.lst (out.toList.map bkV)), I.laid (t' := s.toks) (fun _ _ => PyProof.Rows.sortedAll_old) (Nat.le_succ _) ⟨by rw [hp.length_eq]; exact hz, out.toList, ep, bkV_vals h3, he'⟩, rfl, q _ _ hp ?_ (I.hok.fresh (Nat.le_succ _))⟩
  rw [List.pairwise_map]
  exact a2
end
end Fb

/-! Part S4: enumerate of a tuple. -/
namespace Fb
open PySem PySem.Spec PyProof.Rows L2
open AutoSeq1 (wpAny_loadPart')
set_option maxHeartbeats 1000000 in
theorem meets_enumT (l : Addr) (items : Array Value) :
    Meets (Builtin.«enumerate.__new__» ⟨[.type "enumerate", .ref l], []⟩) (fun _ R s => s.heap.IsTuple l items ∧
      R (.ok (.ret (.ref (s.heap.push { cls := .type "tuple_iterator", data := .fields #[.ref l, .int 0 0] }).objs.size)))
        { s with heap := (s.heap.push { cls := .type "tuple_iterator", data := .fields #[.ref l, .int 0 0] }).push { cls := .type "enumerate", data := .fields #[.none, .bool false, .ref s.heap.objs.size, rawInt 0, .none, .none] } }) :=
  .of_wp fun prog w A R s h => by
    obtain ⟨hp, g, d, tk, os⟩ := s; obtain ⟨hL, h⟩ := h
    have hsub := sub_enumerate
    have q1 : ∀ {A' : Around} {E : Value → Shared → Prop} {Q : Value → Shared → Prop}, Q (.ref hp.objs.size) ⟨hp.push { cls := .type "tuple_iterator", data := .fields #[.ref l, .int 0 0] }, g, d, tk, os⟩ → wpAny (model prog w) A' (pyIter (.ref l)) Q E ⟨hp, g, d, tk, os⟩ :=
      fun q => wpAny_pyIter_tuple hL q
    wp_walk using q1
    refine wpAny_stack_any fun st => wpAny_pure ?_
    split
    · rename_i c _ _ _ _ _
      cases (c == Value.type "enumerate")
      · wp_walk using q1
        exact ⟨_, rfl, h⟩
      · wp_walk using q1
        exact ⟨_, rfl, h⟩
    · wp_walk using q1
      exact ⟨_, rfl, h⟩
theorem call_enumT {prog : Program} {w : World} {A : Around} {E : Value → Shared → Prop} {s : Shared} {l : Addr} {items : Array Value} {Q : Value → Shared → Prop} (hL : s.heap.IsTuple l items)
    (h : ∀ h', IsEnum h' (s.heap.objs.size + 1) s.heap.objs.size 0 .none → h'.IsTupleIter s.heap.objs.size l 0 → h'.objs.size = s.heap.objs.size + 2 →
      (∀ b o, s.heap.get? b = some o → h'.get? b = some o) → Q (.ref (s.heap.objs.size + 1)) { s with heap := h' }) :
    wpAny (model prog w) A (call (.type "enumerate") [.ref l]) Q E s := by
  refine callType_new F.called_enumerate (by decide) (F.typeCall_enumerate_1 _) (F.newCall_enumerate_1 _) (fun obj => F.args_object_init_2 obj _) F.entry_enumerate_new
    (meets_enumT l items) ⟨hL, ?_⟩
  have hz : (s.heap.push { cls := .type "tuple_iterator", data := .fields #[.ref l, .int 0 0] }).objs.size = s.heap.objs.size + 1 := Heap.size_push ..
  show _ ∧ _
  rw [hz]
  have he : IsEnum ((s.heap.push { cls := .type "tuple_iterator", data := .fields #[.ref l, .int 0 0] }).push
      { cls := .type "enumerate", data := .fields #[.none, .bool false, .ref s.heap.objs.size, rawInt 0, .none, .none] }) (s.heap.objs.size + 1) s.heap.objs.size 0 .none := by
    have := Heap.get?_push_size (s.heap.push { cls := .type "tuple_iterator", data := .fields #[.ref l, .int 0 0] })
      (o := { cls := .type "enumerate", data := .fields #[.none, .bool false, .ref s.heap.objs.size, rawInt 0, .none, .none] }) rfl
    rw [hz] at this; exact this
  refine ⟨⟨_, he, rfl⟩, h _ he ⟨_, Heap.get?_push_of_some _ (Heap.get?_push_size _ rfl), rfl, rfl⟩ (by rw [Heap.size_push, hz]) fun b o x => Heap.get?_push_of_some _ (Heap.get?_push_of_some _ x)⟩
/-- the tuple at a, each item in a new pair -/
def IteT (K : PySem.W.Frag) (a : Addr) : It :=
  ⟨fun i H => ∃ (xs : List V) (x : V), SqT K H a xs ∧ xs[i]? = some x, fun i H v H' => ∃ T x, v = .ref T ∧ H T = none ∧ H' = upd H T (.tup [.int (i : Nat), x]) ∧ ∀ xs, SqT K H a xs → xs[i]? = some x, fun i H => ∃ xs : List V, SqT K H a xs ∧ xs.length ≤ i⟩
theorem turn_enumT {P : Program} {w : World} {K : PySem.W.Frag} {elts : List Expr} {kk : Nat} {tpos : Pos} (a e it : Addr) :
    Turn P w K (.Tuple elts kk tpos) (IteT K a) [e, it] e (fun i h => (∃ old, IsEnum h e it ((i : Nat) : Int) old) ∧ h.IsTupleIter it a i ∧ e ≠ it) where
  mem := by simp
  obj := fun i h st b hb => by
    obtain ⟨⟨old, he⟩, ⟨o, ho, hc, hd⟩, _⟩ := st
    have e' : b = e ∨ b = it := by simpa using hb
    rcases e' with z | z
    · rw [z]; exact ⟨_, he, fun v q => nomatch q⟩
    · rw [z]; exact ⟨o, ho, fun v q => by rw [hd] at q; cases q⟩
  keep := fun i h h' st k => let ⟨⟨old, he⟩, hi, hne⟩ := st; ⟨⟨old, k e (by simp) _ he⟩, hi.at fun o q => k it (by simp) o q, hne⟩
  item := by
    intro X hP hw hK hc i pins s σ H E I hf st hg
    subst hP hw hK
    obtain ⟨⟨old, he⟩, hit, hne⟩ := st
    obtain ⟨xs, x, hq, hx⟩ := hg
    obtain ⟨its, rv, p, hz⟩ := I.tuple hq
    obtain ⟨u, hu, ru⟩ := rv.get hx
    have hel : e < s.heap.objs.size := Heap.lt_size he
    have hil : it < s.heap.objs.size := by obtain ⟨_, q, _⟩ := hit; exact Heap.lt_size q
    have pt : s.heap.IsTuple a its.toArray := p
    have hai : a ≠ it := by
      rintro rfl
      obtain ⟨o1, e1, c1, _⟩ := pt
      obtain ⟨o2, e2, c2, _⟩ := hit
      rw [e1] at e2
      cases e2
      rw [c1] at c2
      exact absurd (Value.type.inj c2) (by decide)
    have hea : e ≠ a := by
      rintro rfl
      obtain ⟨o1, e1, c1, _⟩ := pt
      have e2 := e1.symm.trans he
      cases e2
      exact absurd (Value.type.inj c1) (by decide)
    have hil' : i < its.toArray.size := by
      have := (List.getElem?_eq_some_iff.mp hu).1
      simpa using this
    refine wpAny_pyNext_enum_itemD (Draws.tuple (prog := X.prog) (w := X.w) (A := X.A.in1) (show X.A.in1.handled = none from I.ok.hd hc) it a hai its.toArray) he ⟨hit, pt⟩ hil' hne (by simp [hne, hea]) fun x' h' tk hP ho hst hT hsz hk => ?_
    have hux : x' = u := by
      have h1 : its[i]? = some x' := by simpa using hP
      rw [hu] at h1
      exact (Option.some.inj h1).symm
    subst hux
    obtain ⟨hit', _⟩ := hst
    refine ⟨_, rfl, wpAny_letOwnedTupleGo_enum (s := { s with heap := h', toks := tk + 1 }) ho fun h'' he' sb => ?_⟩
    have hT2 : h''.get? s.heap.objs.size = some { cls := .type "tuple", data := .seq #[.int i tk, x'] } := (sb.2 _ (Nat.ne_of_gt hel)).trans hT
    have new : ObjOk X.prog X.w (upd H s.heap.objs.size (.tup [.int (i : Nat), x])) h'' s.heap.objs.size (.tup [.int (i : Nat), x]) :=
      ⟨by show 2 ≤ sizeLine; decide, [.int i tk, x'], .cons ⟨_, rfl⟩ (.cons ru .nil), ⟨_, hT2, rfl, _, rfl⟩⟩
    have I1 : Inv X pins σ (upd H s.heap.objs.size (.tup [.int (i : Nat), x])) { s with heap := h'', toks := tk + 1 } :=
      I.turnedNew (ch := [e, it]) (fun b ob hb q => (sb.2 b (fun z => hb (by simp [z]))).trans (hk b ob (fun z => hb (by simp [z])) (fun z => hb (by simp [z])) q)) hf (Nat.le_refl _) new
    refine ⟨.ref s.heap.objs.size, _, I1, rfl, ⟨_, x, rfl, I.hok.fresh (Nat.le_refl _), rfl, fun ys hy => by rw [I.tuple_inj hy hq]; exact hx⟩, ⟨⟨x', ?_⟩, hit'.at fun o q => (sb.2 it (Ne.symm hne)).trans q, hne⟩, fun b hb => ?_⟩
    · have e1 : ((i + 1 : Nat) : Int) = (i : Int) + 1 := by omega
      rw [e1]; exact he'
    · have hb' : b < s.heap.objs.size := by
        have e' : b = e ∨ b = it := by simpa using hb
        rcases e' with z | z
        · rw [z]; exact hel
        · rw [z]; exact hil
      rw [upd_ne (Nat.ne_of_lt hb')]
      exact (hf b hb).1
  done := by
    intro X hP hw hK hc i pins s σ H E I hf st hg
    subst hP hw hK
    obtain ⟨⟨old, he⟩, hit, hne⟩ := st
    obtain ⟨xs, hq, hx⟩ := hg
    obtain ⟨its, rv, p, hz⟩ := I.tuple hq
    obtain ⟨f0, f1, f2, f3, f4, f5⟩ := hf it (by simp)
    have hl := rv.length
    have hT : s.TypeIs (.ref e) "enumerate" := ⟨_, he, rfl⟩
    unfold pyNext
    refine wpAny_bind (wpAny_attempt (wpAny_callSpecial?_slot (name := Str.ofString "__next__") hT F.slot_enumerate_next
      (wpAny_call_entry F.slot_enumerate_next hT F.entry_enumerate_next ?_ (F.args_enumerate_next_1 _))))
    show wpAny _ _ (field (.ref e) 2 >>= _) _ _ _
    refine wpAny_bind (wpAny_field he rfl (x := .ref it) rfl ?_)
    refine wpAny_bind (wpAny_nextOf_tuple_end (I.ok.hd hc) hit p (by simp; omega) fun h' x he' hx' => ?_)
    obtain ⟨o, ho, hc⟩ := hx'
    refine wpAny_bind (wpAny_isInstance (T := "StopIteration") (b := true) ⟨o, ho, hc⟩ isSubtype_stop ?_)
    exact wpAny_pure ⟨rfl, I.turned (t' := s.toks) (fun b o hb q => he' b o hb q) f0 f1 f3 f4 f5⟩
  self := fun A i s Q E st h => let ⟨⟨_, he⟩, _⟩ := st; wpAny_pyIter_enum he h
def iEnumT (K : PySem.W.Frag) (ta : TA) : TI := fun σ H R => ta σ H fun vs H1 => ∃ a xs, vs = [.ref a] ∧ SqT K H1 a xs ∧ R (IteT K a) H1
theorem pi_enumT {X : Cx} {e : Expr} {ta : TA} {p pos tpos : Pos} {elts : List Expr} {kk : Nat} (hg : Gl X "enumerate") (hm : X.mg "enumerate" = none) (ha : PA X [e] ta) (hs : starEach [e] X.env = [(false, eval e X.env)] := by rfl) :
    PI X (.Tuple elts kk tpos) (.Call (.Name "enumerate" p) [e] [] pos) (iEnumT X.K ta) := by
  refine ⟨fun pins s σ H R I h => ?_⟩
  refine Call_ (ld_blt I hg hm boot_enumerate (PyProof.Rows.callWith_type1 (thn (ha.run pos pins s σ H _ I h) fun us s1 ⟨vs, H1, I1, r1, q1⟩ => ?_) hs rfl))
  obtain ⟨a, xs, ex, hq, q⟩ := q1
  subst ex
  cases r1 with
  | cons r rr =>
    cases rr
    cases r
    obtain ⟨its, rv, p', hz⟩ := I1.tuple hq
    refine call_enumT p' fun h' he hit hsz hk => wpAny_pyIter_enum he ?_
    have I2 : Inv X pins σ H1 { s1 with heap := h' } := I1.kept (t' := s1.toks) hk
    refine ⟨s1.heap.objs.size + 1, [s1.heap.objs.size + 1, s1.heap.objs.size], _, _, H1, rfl, I2, turn_enumT a (s1.heap.objs.size + 1) s1.heap.objs.size, ⟨⟨.none, he⟩, hit, Nat.succ_ne_self _⟩, fun b hb => ?_, q⟩
    have e' : b = s1.heap.objs.size + 1 ∨ b = s1.heap.objs.size := by simpa using hb
    have hle : s1.heap.objs.size ≤ b := by
      rcases e' with z | z
      · rw [z]; exact Nat.le_add_right _ _
      · rw [z]; exact Nat.le_refl _
    exact I1.fpOk hle (I1.hok.fresh hle)
theorem walk_enumT {K : PySem.W.Frag} {a : Addr} {xs : List V} : Walk (IteT K a) xs.length (fun H => SqT K H a xs) (YPair (fun i => some (.int (i : Nat))) (fun i => xs[i]?)) := by
  refine ⟨fun i _ hi q => ⟨xs, xs[i], q, by simp [hi]⟩, fun _ q => ⟨xs, q, Nat.le_refl _⟩, fun i H v H' _ q y => ?_⟩
  obtain ⟨T, x, h1, h2, h3, h4⟩ := y
  exact ⟨T, .int (i : Nat), x, h1, h2, h3, rfl, h4 xs q⟩
section
variable {J : It} {n : Nat} {G : Hp → Prop} {Y : Nat → Hp → V → Hp → Prop}
/-- [e for x in .. if ..]: just those that are let by -/
theorem lc_filtW (w : Walk J n G Y) {g : TG} {tt : TT} {te : TE} {vs : List Nat} {σ : L2.St} {H1 : Hp} {D : Addr} {Qd : Hp → Prop} (t : Nat → Bool) (R : Nat → V → Hp → Prop) (mono : ∀ i v H H', Same H H' → R i v H → R i v H')
    (hD : H1 D = none) (hS : ∀ H, Same H1 H → G H) (hz : n ≤ 1000)
    (hs : ∀ (i : Nat) x H H' (kt : V → Hp → Prop) (kf : Hp → Prop), i < n → Same H1 (hid D H) → (∃ ys, H D = some (.lst ys)) → Y i H x H' → (t i = true → ∀ y H4, Same H H4 → R i y (hid D H4) → kt y H4) → (t i = false → ∀ H4, Same H H4 → kf H4) →
      g x (wipe σ vs) H' fun σ2 H2 => wipe σ2 vs = wipe σ vs ∧ tt σ2 H2 fun b H3 => if b = true then te σ2 H3 kt else kf H3)
    (hd : ∀ H ys, Same H1 (hid D H) → H D = some (.lst ys) → AllAre (fun y i => R i y (hid D H)) ys ((List.range n).filter t) → Qd H) :
    ∃ W : Nat → Nat → Hp → Prop, (∃ m, W 0 m (upd H1 D (.lst []))) ∧ ∀ i m H, W i m H →
      (J.stop i H ∧ Qd H) ∨ (J.go i H ∧ ∃ Nx : Hp → Prop, (∀ H', Nx H' → ∃ m', m' < m ∧ W (i + 1) m' H') ∧ ∀ x H', J.yld i H x H' → g x (wipe σ vs) H' fun σ2 H2 => wipe σ2 vs = wipe σ vs ∧ tt σ2 H2 fun b H3 =>
        if b = true then te σ2 H3 fun y H4 => ∃ acc, H4 D = some (.lst acc) ∧ acc.length < sizeLine ∧ Nx (upd H4 D (.lst (acc ++ [y]))) else Nx H3) := by
  refine lc_it w (fun i H => ∃ ys, Same H1 (hid D H) ∧ H D = some (.lst ys) ∧ AllAre (fun y j => R j y (hid D H)) ys ((List.range i).filter t)) ⟨[], ?_, upd_same, .nil⟩ (fun i H _ h => ?_) (fun i x H H' hi h y => ?_) (fun H h => ?_)
  · intro b o e
    rw [hid_ne (ne_of_none e hD), upd_ne (ne_of_none e hD)]
    exact e
  · obtain ⟨ys, s, _⟩ := h
    exact hS H (s.trans hid_same)
  · obtain ⟨ys, s, e, a⟩ := h
    refine hs i x H H' (fun y H4 => ∃ acc, H4 D = some (.lst acc) ∧ acc.length < sizeLine ∧ ∃ ys, Same H1 (hid D (upd H4 D (.lst (acc ++ [y])))) ∧ (upd H4 D (.lst (acc ++ [y]))) D = some (.lst ys) ∧ AllAre (fun y' j => R j y' (hid D (upd H4 D (.lst (acc ++ [y]))))) ys ((List.range (i + 1)).filter t)) (fun H3 => ∃ ys, Same H1 (hid D H3) ∧ H3 D = some (.lst ys) ∧ AllAre (fun y j => R j y (hid D H3)) ys ((List.range (i + 1)).filter t)) hi s ⟨_, e⟩ y (fun ht y H4 s4 r4 => ?_) (fun hf H4 s4 => ?_)
    · have ll : ys.length < 1000 := by
        have h1 := a.1
        have h2 := List.length_filter_le t (List.range i)
        rw [List.length_range] at h2
        omega
      refine ⟨ys, s4 _ _ e, small1000 (by omega), ys ++ [y], ?_, upd_same, ?_⟩
      · rw [hid_upd]
        exact s.trans (hid_mono s4)
      · rw [hid_upd, List.range_succ, List.filter_append, List.filter_cons_of_pos ht, List.filter_nil]
        exact AllAre.snoc (a.imp fun _ _ r => mono _ _ _ _ (hid_mono s4) r) r4
    · refine ⟨ys, s.trans (hid_mono s4), s4 _ _ e, ?_⟩
      rw [List.range_succ, List.filter_append, List.filter_cons_of_neg (by rw [hf]; exact Bool.false_ne_true), List.filter_nil, List.append_nil]
      exact a.imp fun _ _ r => mono _ _ _ _ (hid_mono s4) r
  · obtain ⟨ys, s, e, a⟩ := h
    exact hd H ys s e a
end
end Fb

/-! Part S5: a tuple once or more times over. -/
namespace Fb
open PySem PySem.Spec PyProof.Rows L2
open AutoSeq1 (wpAny_loadPart')
theorem tuple_mul1 (l : Addr) (items : Array Value) (n : Nat) (sl : Array (Option Value)) (dd : Option Addr) (u : Tok) :
    Meets (Builtin.«tuple.__mul__» ⟨[.ref l, .int 1 u], []⟩) (fun _ R s => s.heap.get? l = some { cls := .type "tuple", dict := dd, data := .seq items n, slots := sl } ∧
      R (.ok (.ret (Value.ref l))) s) :=
  .of_wp fun prog w A R s h => by
    obtain ⟨hp, g, d, tk, os⟩ := s
    obtain ⟨hl, h⟩ := h
    have f1 := AutoSeq1.idx_int
    have c1 : (items.isEmpty || (1 : Int) == 1) = true := by simp
    wp_walk using wpAny_loadPart' hl
    repeat (first
      | (refine wpAny_ite_true (decide_eq_true (by rw [c1])) ?_; wp_walk using wpAny_loadPart' hl)
      | (refine wpAny_ite_true c1 ?_; wp_walk using wpAny_loadPart' hl)
      | (refine wpAny_ite_false (by decide) ?_; wp_walk using wpAny_loadPart' hl))
    exact ⟨_, rfl, h⟩
def rRepA (K : PySem.W.Frag) : R2 := fun x y H Q => ∃ l k xs, x = .ref l ∧ y = .int k ∧ SqT K H l xs ∧ xs ≠ [] ∧ 1 ≤ k ∧ k ≤ 1000 ∧ xs.length ≤ 1000 ∧ (k = 1 → Q (.ref l) H) ∧ (2 ≤ k → ∀ p, H p = none → Q (.ref p) (upd H p (.tup (List.replicate k.toNat xs).flatten)))
theorem op_repA {X : Cx} : OpR X (binaryOp .Mult) (rRepA X.K) := by
  intro pins s σ H x y v u Q I rx ry h
  obtain ⟨l, k, xs, rfl, rfl, hT, hne, h1, h2, hz, q1, q2⟩ := h
  by_cases h2k : 2 ≤ k
  · exact op_repT pins s σ H _ _ v u Q I rx ry ⟨l, k, xs, rfl, rfl, hT, hne, h2k, h2, hz, q2 h2k⟩
  · have : k = 1 := by omega
    subst this
    cases rx
    obtain ⟨t, rfl⟩ := ry
    obtain ⟨its, r, ⟨⟨cls, dd, data, sl⟩, ho, hc, n, hd⟩, hs⟩ := I.tuple hT
    simp only at hc hd
    subst hc hd
    refine wpAny_binaryOp_repeat_ref (T := "tuple") (U := "int") (by decide) ⟨_, ho, rfl⟩ (fun s' => typeIs_int s' 1 t) noFill_tuple_mul F.fills_int_mul F.slot_int_rmul repeat_tuple F.slot_int_index.lookup
      (call_meets F.slot_int_rmul (typeIs_int s 1 t) F.entry_int_rmul (F.args_int_rmul_2 _ _) (int_rmul_tuple 1 t l its.toArray n dd sl)
        ⟨ho, rfl, ⟨_, ho, rfl⟩, call_meets F.slot_tuple_mul ⟨_, ho, rfl⟩ F.entry_tuple_mul (F.args_tuple_mul_2 _ _) (tuple_mul1 l its.toArray n sl dd t) ⟨ho, ?_⟩⟩)
    exact ⟨.ref l, H, I, rfl, q1 rfl⟩
theorem op_repAK {X : Cx} {K : PySem.W.Frag} (hK : X.K = K) : OpR X (binaryOp .Mult) (rRepA K) := hK ▸ op_repA
theorem op_catTK {X : Cx} {K : PySem.W.Frag} (hK : X.K = K) : OpR X (binaryOp .Add) (rCatT K) := hK ▸ op_catT
end Fb

/-! Part HM1: trees of ways that carry one heap to another (mathematics): sums, cuts, what no cut parts. -/
namespace Fb
inductive Nd where
  | row (r : Nat)
  | col (c : Nat)
  deriving DecidableEq
abbrev Wy := Nat × Nat
/-- an end of a way -/
def Nd.on (v : Nd) (w : Wy) : Bool := match v with
  | .row r => decide (r = w.1)
  | .col c => decide (c = w.2)
def Nd.ep (v : Nd) : Int := match v with
  | .row _ => 1
  | .col _ => -1
def isum : List Int → Int
  | [] => 0
  | x :: l => x + isum l
theorem isum_app : ∀ l k : List Int, isum (l ++ k) = isum l + isum k
  | [], k => by show isum k = 0 + isum k; omega
  | x :: l, k => by
    show x + isum (l ++ k) = x + isum l + isum k
    rw [isum_app l k]
    omega
theorem isum_perm {l k : List Int} (h : l.Perm k) : isum l = isum k := by
  induction h with
  | nil => rfl
  | cons x _ ih =>
    show x + _ = x + _
    rw [ih]
  | swap x y l =>
    show y + (x + isum l) = x + (y + isum l)
    omega
  | trans _ _ ih1 ih2 => exact ih1.trans ih2
def vsum {α : Type} (V : List α) (f : α → Int) : Int := isum (V.map f)
section
variable {α : Type}
theorem vsum_nil (f : α → Int) : vsum [] f = 0 := rfl
theorem vsum_cons (v : α) (V : List α) (f : α → Int) : vsum (v :: V) f = f v + vsum V f := rfl
theorem vsum_app (V W : List α) (f : α → Int) : vsum (V ++ W) f = vsum V f + vsum W f := by
  unfold vsum
  rw [List.map_append, isum_app]
theorem vsum_congr {V : List α} {f g : α → Int} (h : ∀ v ∈ V, f v = g v) : vsum V f = vsum V g := by
  unfold vsum
  rw [List.map_congr_left h]
theorem vsum_zero {V : List α} {f : α → Int} (h : ∀ v ∈ V, f v = 0) : vsum V f = 0 := by
  induction V with
  | nil => rfl
  | cons v V ih =>
    rw [vsum_cons, h v List.mem_cons_self, ih fun x hx => h x (List.mem_cons_of_mem _ hx)]
    rfl
theorem vsum_add (V : List α) (f g : α → Int) : vsum V (fun v => f v + g v) = vsum V f + vsum V g := by
  induction V with
  | nil => rfl
  | cons v V ih => rw [vsum_cons, vsum_cons, vsum_cons, ih]; omega
theorem vsum_mul (k : Int) (V : List α) (f : α → Int) : vsum V (fun v => k * f v) = k * vsum V f := by
  induction V with
  | nil => rw [vsum_nil, vsum_nil, Int.mul_zero]
  | cons v V ih => rw [vsum_cons, vsum_cons, ih, Int.mul_add]
theorem vsum_le {V : List α} {f g : α → Int} (h : ∀ v ∈ V, f v ≤ g v) : vsum V f ≤ vsum V g := by
  induction V with
  | nil => exact Int.le_refl _
  | cons v V ih =>
    rw [vsum_cons, vsum_cons]
    have h1 := h v List.mem_cons_self
    have h2 := ih fun x hx => h x (List.mem_cons_of_mem _ hx)
    omega
theorem vsum_pos {V : List α} {f : α → Int} (h : ∀ v ∈ V, 0 ≤ f v) : 0 ≤ vsum V f := by
  have := vsum_le (f := fun _ => 0) h
  rw [vsum_zero fun _ _ => rfl] at this
  exact this
/-- a sum of what is from 0 on that comes to 0 -/
theorem vsum_none {V : List α} {f : α → Int} (h : ∀ v ∈ V, 0 ≤ f v) (z : vsum V f = 0) : ∀ v ∈ V, f v = 0 := by
  induction V with
  | nil => exact fun v hv => by cases hv
  | cons v V ih =>
    rw [vsum_cons] at z
    have h1 := h v List.mem_cons_self
    have h2 := vsum_pos fun x hx => h x (List.mem_cons_of_mem _ hx)
    intro x hx
    rcases List.mem_cons.mp hx with rfl | hx
    · omega
    · exact ih (fun x hx => h x (List.mem_cons_of_mem _ hx)) (by omega) x hx
theorem vsum_one [DecidableEq α] {V : List α} {a : α} (nd : V.Nodup) (f : α → Int) : vsum V (fun v => if v = a then f v else 0) = if a ∈ V then f a else 0 := by
  induction V with
  | nil => rfl
  | cons v V ih =>
    rw [List.nodup_cons] at nd
    rw [vsum_cons, ih nd.2]
    by_cases e : v = a
    · subst e
      rw [if_pos rfl, if_neg nd.1, if_pos List.mem_cons_self]
      omega
    · rw [if_neg e]
      by_cases m : a ∈ V
      · rw [if_pos m, if_pos (List.mem_cons_of_mem _ m)]
        omega
      · rw [if_neg m, if_neg (fun h => (List.mem_cons.mp h).elim (fun h => e h.symm) m)]
        rfl
theorem vsum_perm {V W : List α} (h : V.Perm W) (f : α → Int) : vsum V f = vsum W f := isum_perm (h.map f)
end
/-- what goes by the ways at a place -/
def bal (t : List (Wy × Int)) (v : Nd) : Int := vsum t fun p => if v.on p.1 = true then p.2 else 0
def tsum (t : List (Wy × Int)) (f : Wy → Int) : Int := vsum t fun p => f p.1 * p.2
theorem on_sum {V : List Nd} (nd : V.Nodup) {w : Wy} (hr : Nd.row w.1 ∈ V) (hc : Nd.col w.2 ∈ V) (g : Nd → Int) : vsum V (fun v => if v.on w = true then g v else 0) = g (.row w.1) + g (.col w.2) := by
  have e : vsum V (fun v => if v.on w = true then g v else 0) = vsum V (fun v => (if v = .row w.1 then g v else 0) + (if v = .col w.2 then g v else 0)) := vsum_congr fun v _ => by
    cases v with
    | row r =>
      by_cases h : r = w.1
      · subst h; simp [Nd.on]
      · simp [Nd.on, h]
    | col r =>
      by_cases h : r = w.2
      · subst h; simp [Nd.on]
      · simp [Nd.on, h]
  rw [e, vsum_add, vsum_one nd, vsum_one nd, if_pos hr, if_pos hc]
theorem bal_cons (p : Wy × Int) (t : List (Wy × Int)) (v : Nd) : bal (p :: t) v = (if v.on p.1 = true then p.2 else 0) + bal t v := rfl
def Ends (V : List Nd) (t : List (Wy × Int)) : Prop := ∀ p ∈ t, Nd.row p.1.1 ∈ V ∧ Nd.col p.1.2 ∈ V
/-- by places, and by ways -/
theorem by_ways {V : List Nd} (nd : V.Nodup) (g : Nd → Int) : ∀ {t : List (Wy × Int)}, Ends V t → vsum V (fun v => g v * bal t v) = tsum t fun w => g (.row w.1) + g (.col w.2)
  | [], _ => vsum_zero fun v _ => by show g v * 0 = 0; omega
  | p :: t, h => by
    obtain ⟨h1, h2⟩ := h p List.mem_cons_self
    have ih := by_ways nd g (t := t) fun q hq => h q (List.mem_cons_of_mem _ hq)
    have e : vsum V (fun v => g v * bal (p :: t) v) = vsum V (fun v => p.2 * (if v.on p.1 = true then g v else 0) + g v * bal t v) := vsum_congr fun v _ => by
      rw [bal_cons, Int.mul_add]
      congr 1
      by_cases c : v.on p.1 = true
      · rw [if_pos c, if_pos c, Int.mul_comm]
      · rw [if_neg c, if_neg c, Int.mul_zero, Int.mul_zero]
    rw [e, vsum_add, vsum_mul, on_sum nd h1 h2, ih]
    show _ = (g (.row p.1.1) + g (.col p.1.2)) * p.2 + _
    rw [Int.mul_comm]
    rfl
/-- no part of the places alone can be served -/
def Nondeg (V : List Nd) (s : Nd → Int) : Prop := ∀ S : Nd → Bool, vsum V (fun v => if S v = true then v.ep * s v else 0) = 0 → (∃ v ∈ V, S v = true) → ∀ v ∈ V, S v = true
def Feas (V : List Nd) (s : Nd → Int) (t : List (Wy × Int)) : Prop := Ends V t ∧ ∀ v ∈ V, bal t v = s v
def Conn (V : List Nd) (W : List Wy) : Prop := ∀ S : Nd → Bool, (∃ v ∈ V, S v = true) → (∀ w ∈ W, S (.row w.1) = S (.col w.2)) → ∀ v ∈ V, S v = true
theorem conn_of {V : List Nd} {s : Nd → Int} {t : List (Wy × Int)} (nd : V.Nodup) (n : Nondeg V s) (f : Feas V s t) : Conn V (t.map (·.1)) := by
  intro S ex cl
  refine n S ?_ ex
  have e : vsum V (fun v => if S v = true then v.ep * s v else 0) = vsum V (fun v => (if S v = true then v.ep else 0) * bal t v) := vsum_congr fun v hv => by
    rw [f.2 v hv]
    by_cases c : S v = true
    · rw [if_pos c, if_pos c]
    · rw [if_neg c, if_neg c, Int.zero_mul]
  rw [e, by_ways nd _ f.1]
  refine vsum_zero fun p hp => ?_
  have c := cl p.1 (List.mem_map_of_mem hp)
  show ((if S (.row p.1.1) = true then (1 : Int) else 0) + (if S (.col p.1.2) = true then (-1 : Int) else 0)) * p.2 = 0
  rw [c]
  by_cases d : S (.col p.1.2) = true
  · rw [if_pos d, if_pos d]
    show (1 + -1 : Int) * p.2 = 0
    rw [show (1 + -1 : Int) = 0 from rfl, Int.zero_mul]
  · rw [if_neg d, if_neg d]
    show (0 + 0 : Int) * p.2 = 0
    rw [show (0 + 0 : Int) = 0 from rfl, Int.zero_mul]
theorem sub_len {α : Type} : ∀ {V S : List α}, V.Nodup → (∀ v ∈ V, v ∈ S) → V.length ≤ S.length
  | [], _, _, _ => Nat.zero_le _
  | v :: V, S, nd, h => by
    classical
    rw [List.nodup_cons] at nd
    have hv := h v List.mem_cons_self
    have h1 := sub_len (V := V) (S := S.erase v) nd.2 fun x hx => (List.mem_erase_of_ne (fun e : x = v => nd.1 (e ▸ hx))).mpr (h x (List.mem_cons_of_mem _ hx))
    have h2 := List.length_erase_of_mem hv
    have h3 := List.length_pos_of_mem hv
    rw [List.length_cons]
    omega
/-- each way more joins one place more at most -/
theorem grow {V : List Nd} {W : List Wy} (nd : V.Nodup) (cn : Conn V W) : ∀ (k : Nat) (S : List Nd) (R : List Wy), R.length = k → (∃ v ∈ V, v ∈ S) → (∀ w ∈ W, w ∈ R ∨ (Nd.row w.1 ∈ S ∧ Nd.col w.2 ∈ S)) → V.length ≤ S.length + R.length
  | k, S, R, hk, ex, h => by
    by_cases all : ∀ v ∈ V, v ∈ S
    · exact Nat.le_trans (sub_len nd all) (Nat.le_add_right _ _)
    · have : ∃ w ∈ W, decide (Nd.row w.1 ∈ S) ≠ decide (Nd.col w.2 ∈ S) := by
        apply Classical.byContradiction
        intro no
        refine all fun v hv => ?_
        obtain ⟨v0, h0, h1⟩ := ex
        have := cn (fun v => decide (v ∈ S)) ⟨v0, h0, decide_eq_true h1⟩ (fun w hw => Classical.byContradiction fun ne => no ⟨w, hw, ne⟩) v hv
        exact of_decide_eq_true this
      obtain ⟨w, hw, ne⟩ := this
      have wR : w ∈ R := (h w hw).resolve_right fun ⟨h1, h2⟩ => ne (by rw [decide_eq_true h1, decide_eq_true h2])
      have lp := List.length_pos_of_mem wR
      have le := List.length_erase_of_mem wR
      obtain ⟨n, hn⟩ : ∃ n, ∀ x, (x = Nd.row w.1 ∨ x = Nd.col w.2) → x ∈ n :: S := by
        by_cases c : Nd.row w.1 ∈ S
        · exact ⟨.col w.2, fun x hx => hx.elim (fun e => e ▸ List.mem_cons_of_mem _ c) fun e => e ▸ List.mem_cons_self⟩
        · have d : Nd.col w.2 ∈ S := Classical.byContradiction fun d => ne (by rw [decide_eq_false c, decide_eq_false d])
          exact ⟨.row w.1, fun x hx => hx.elim (fun e => e ▸ List.mem_cons_self) fun e => e ▸ List.mem_cons_of_mem _ d⟩
      obtain ⟨v0, h0, h1⟩ := ex
      have := grow nd cn (k - 1) (n :: S) (R.erase w) (by omega) ⟨v0, h0, List.mem_cons_of_mem _ h1⟩ fun w' hw' => by
        by_cases e : w' = w
        · subst e
          exact .inr ⟨hn _ (.inl rfl), hn _ (.inr rfl)⟩
        · rcases h w' hw' with h | ⟨h1, h2⟩
          · exact .inl ((List.mem_erase_of_ne e).mpr h)
          · exact .inr ⟨List.mem_cons_of_mem _ h1, List.mem_cons_of_mem _ h2⟩
      rw [List.length_cons] at this
      omega
termination_by k => k
decreasing_by
  have lp := List.length_pos_of_mem wR
  omega
theorem conn_len {V : List Nd} {W : List Wy} (nd : V.Nodup) (ne : V ≠ []) (cn : Conn V W) : V.length ≤ W.length + 1 := by
  cases V with
  | nil => exact absurd rfl ne
  | cons v V =>
    have := grow nd cn W.length [v] W rfl ⟨v, List.mem_cons_self, List.mem_singleton.mpr rfl⟩ fun w hw => .inl hw
    rw [List.length_singleton] at this
    omega
end Fb

/-! Part HM2: trees hung up by a row: prices, paths, rings (mathematics). -/
namespace Fb
/-- place by place, each with the way by which it hangs; the last one first -/
abbrev Hg := List (Nd × Wy)
def nds (root : Nat) (h : Hg) : List Nd := h.map (·.1) ++ [.row root]
def wys (h : Hg) : List Wy := h.map (·.2)
/-- the other end of a way -/
def oth (v : Nd) (w : Wy) : Nd := match v with
  | .row _ => .col w.2
  | .col _ => .row w.1
inductive HT (root : Nat) : Hg → Prop
  | nil : HT root []
  | cons {h : Hg} {v : Nd} {w : Wy} (t : HT root h) (on : v.on w = true) (o : oth v w ∈ nds root h) (n : v ∉ nds root h) : HT root ((v, w) :: h)
def pr (cost : Wy → Int) : Hg → Nd → Int
  | [], _ => 0
  | (n, w) :: h, v => if v = n then (match n with
    | .row _ => pr cost h (.col w.2) + cost w
    | .col _ => pr cost h (.row w.1) - cost w) else pr cost h v
def pth : Hg → Nd → List Wy
  | [], _ => []
  | (n, w) :: h, v => if v = n then w :: pth h (oth n w) else pth h v
theorem on_is {v : Nd} {w : Wy} (h : v.on w = true) : (v = .row w.1 ∧ oth v w = .col w.2) ∨ (v = .col w.2 ∧ oth v w = .row w.1) := by
  cases v with
  | row r => exact .inl ⟨by rw [of_decide_eq_true h], rfl⟩
  | col c => exact .inr ⟨by rw [of_decide_eq_true h], rfl⟩
theorem nds_cons {root : Nat} {h : Hg} {v x : Nd} {w : Wy} : x ∈ nds root ((v, w) :: h) ↔ x = v ∨ x ∈ nds root h := List.mem_cons
theorem root_in (root : Nat) (h : Hg) : Nd.row root ∈ nds root h := List.mem_append_right _ (List.mem_singleton.mpr rfl)
section
variable {root : Nat} {cost : Wy → Int}
theorem HT.ends {h : Hg} (t : HT root h) : ∀ w ∈ wys h, Nd.row w.1 ∈ nds root h ∧ Nd.col w.2 ∈ nds root h := by
  induction t with
  | nil => exact fun w hw => by cases hw
  | @cons h v w t on o n ih =>
    intro x hx
    rcases List.mem_cons.mp hx with rfl | hx
    · rcases on_is on with ⟨e1, e2⟩ | ⟨e1, e2⟩
      · exact ⟨nds_cons.mpr (.inl e1.symm), nds_cons.mpr (.inr (e2 ▸ o))⟩
      · exact ⟨nds_cons.mpr (.inr (e2 ▸ o)), nds_cons.mpr (.inl e1.symm)⟩
    · exact ⟨nds_cons.mpr (.inr (ih x hx).1), nds_cons.mpr (.inr (ih x hx).2)⟩
theorem HT.nodup {h : Hg} (t : HT root h) : (nds root h).Nodup := by
  induction t with
  | nil => exact List.nodup_cons.mpr ⟨(fun h => by cases h), List.nodup_nil⟩
  | cons t on o n ih => exact List.nodup_cons.mpr ⟨n, ih⟩
/-- the way by which a place hangs is new -/
theorem new_way {h : Hg} {v : Nd} {w : Wy} (t : HT root h) (on : v.on w = true) (n : v ∉ nds root h) : w ∉ wys h := fun m => by
  rcases on_is on with ⟨e, _⟩ | ⟨e, _⟩
  · exact n (e ▸ (t.ends w m).1)
  · exact n (e ▸ (t.ends w m).2)
theorem HT.wnodup {h : Hg} (t : HT root h) : (wys h).Nodup := by
  induction t with
  | nil => exact List.nodup_nil
  | cons t on o n ih => exact List.nodup_cons.mpr ⟨new_way t on n, ih⟩
theorem pr_old {h : Hg} {n v : Nd} {w : Wy} (e : v ≠ n) : pr cost ((n, w) :: h) v = pr cost h v := if_neg e
theorem pth_old {h : Hg} {n v : Nd} {w : Wy} (e : v ≠ n) : pth ((n, w) :: h) v = pth h v := if_neg e
theorem pth_new {h : Hg} {n : Nd} {w : Wy} : pth ((n, w) :: h) n = w :: pth h (oth n w) := if_pos rfl
theorem ne_in {l : List Nd} {v n : Nd} (h : v ∈ l) (k : n ∉ l) : v ≠ n := fun e => k (e ▸ h)
/-- each way of the tree costs just what its ends' prices differ by -/
theorem HT.tight {h : Hg} (t : HT root h) : ∀ w ∈ wys h, pr cost h (.row w.1) - pr cost h (.col w.2) = cost w := by
  induction t with
  | nil => exact fun w hw => by cases hw
  | @cons h v w t on o n ih =>
    intro x hx
    rcases List.mem_cons.mp hx with rfl | hx
    · rcases on_is on with ⟨e1, e2⟩ | ⟨e1, e2⟩
      · subst e1
        have o' : Nd.col x.2 ∈ nds root h := o
        rw [pr_old (ne_in o' n)]
        show (if _ then _ else _) - _ = _
        rw [if_pos rfl]
        show pr cost h (.col x.2) + cost x - _ = _
        omega
      · subst e1
        have o' : Nd.row x.1 ∈ nds root h := o
        rw [pr_old (ne_in o' n)]
        show _ - (if _ then _ else _) = _
        rw [if_pos rfl]
        show _ - (pr cost h (.row x.1) - cost x) = _
        omega
    · obtain ⟨h1, h2⟩ := t.ends x hx
      rw [pr_old (ne_in h1 n), pr_old (ne_in h2 n)]
      exact ih x hx
theorem pth_sub : ∀ {h : Hg} {v : Nd} {w : Wy}, w ∈ pth h v → w ∈ wys h
  | [], _, _, h => by cases h
  | (n, x) :: h, v, w, m => by
    by_cases e : v = n
    · subst e
      rw [pth_new] at m
      rcases List.mem_cons.mp m with rfl | m
      · exact List.mem_cons_self
      · exact List.mem_cons_of_mem _ (pth_sub m)
    · rw [pth_old e] at m
      exact List.mem_cons_of_mem _ (pth_sub m)
theorem HT.pnodup {h : Hg} (t : HT root h) (v : Nd) : (pth h v).Nodup := by
  induction t generalizing v with
  | nil => exact List.nodup_nil
  | @cons h n w t on o nn ih =>
    by_cases e : v = n
    · subst e
      rw [pth_new]
      exact List.nodup_cons.mpr ⟨fun m => new_way t on nn (pth_sub m), ih _⟩
    · rw [pth_old e]
      exact ih v
theorem HT.inj {h : Hg} (t : HT root h) : ∀ {v u : Nd}, v ∈ nds root h → u ∈ nds root h → pth h v = pth h u → v = u := by
  induction t with
  | nil =>
    intro v u hv hu _
    rw [List.mem_singleton.mp hv, List.mem_singleton.mp hu]
  | @cons h n w t on o nn ih =>
    intro v u hv hu e
    by_cases ev : v = n
    · by_cases eu : u = n
      · rw [ev, eu]
      · subst ev
        rw [pth_new, pth_old eu] at e
        exact absurd (pth_sub (by rw [← e]; exact List.mem_cons_self)) (new_way t on nn)
    · by_cases eu : u = n
      · subst eu
        rw [pth_new, pth_old ev] at e
        exact absurd (pth_sub (by rw [e]; exact List.mem_cons_self)) (new_way t on nn)
      · rw [pth_old ev, pth_old eu] at e
        exact ih ((nds_cons.mp hv).resolve_left ev) ((nds_cons.mp hu).resolve_left eu) e
theorem HT.step {h : Hg} (t : HT root h) : ∀ {v : Nd} {w : Wy} {l : List Wy}, v ∈ nds root h → pth h v = w :: l → v.on w = true ∧ oth v w ∈ nds root h ∧ pth h (oth v w) = l := by
  induction t with
  | nil =>
    intro v w l _ e
    cases e
  | @cons h n x t on o nn ih =>
    intro v w l hv e
    by_cases ev : v = n
    · subst ev
      rw [pth_new] at e
      obtain ⟨rfl, rfl⟩ := List.cons.inj e
      exact ⟨on, nds_cons.mpr (.inr o), pth_old (ne_in o nn)⟩
    · rw [pth_old ev] at e
      obtain ⟨h1, h2, h3⟩ := ih ((nds_cons.mp hv).resolve_left ev) e
      exact ⟨h1, nds_cons.mpr (.inr h2), by rw [pth_old (ne_in h2 nn)]; exact h3⟩
theorem HT.down {h : Hg} (t : HT root h) : ∀ {l : List Wy} {v : Nd} {s : List Wy}, v ∈ nds root h → pth h v = l ++ s → ∃ u, u ∈ nds root h ∧ pth h u = s
  | [], v, s, hv, e => ⟨v, hv, e⟩
  | w :: l, v, s, hv, e => by
    obtain ⟨_, h2, h3⟩ := t.step hv e
    exact t.down h2 h3
/-- from a way on, paths are the same -/
theorem HT.same {h : Hg} (t : HT root h) : ∀ {v u : Nd} {a b s z : List Wy} {w : Wy}, pth h v = a ++ w :: s → pth h u = b ++ w :: z → s = z := by
  induction t with
  | nil =>
    intro v u a b s z w e _
    have := congrArg List.length e
    rw [List.length_append, List.length_cons] at this
    have : 0 = a.length + (s.length + 1) := this
    omega
  | @cons h n x t on o nn ih =>
    intro v u a b s z w e f
    have nw := new_way t on nn
    have key : ∀ {v : Nd} {a s : List Wy}, pth ((n, x) :: h) v = a ++ w :: s → (w = x ∧ a = [] ∧ s = pth h (oth n x)) ∨ ∃ v' a', pth h v' = a' ++ w :: s := by
      intro v a s e
      by_cases ev : v = n
      · subst ev
        rw [pth_new] at e
        cases a with
        | nil =>
          obtain ⟨e1, e2⟩ := List.cons.inj e
          exact .inl ⟨e1.symm, rfl, e2.symm⟩
        | cons y a =>
          obtain ⟨e1, e2⟩ := List.cons.inj e
          exact .inr ⟨_, a, e2⟩
      · rw [pth_old ev] at e
        exact .inr ⟨v, a, e⟩
    rcases key e with ⟨e1, _, e3⟩ | ⟨v', a', e'⟩
    · rcases key f with ⟨_, _, f3⟩ | ⟨u', b', f'⟩
      · rw [e3, f3]
      · refine absurd (pth_sub (v := u') ?_) nw
        rw [f', ← e1]
        exact List.mem_append_right _ List.mem_cons_self
    · rcases key f with ⟨f1, _, f3⟩ | ⟨u', b', f'⟩
      · refine absurd (pth_sub (v := v') ?_) nw
        rw [e', ← f1]
        exact List.mem_append_right _ List.mem_cons_self
      · exact ih e' f'
end
/-! the ring: ways give and take by turns -/
def alt : Int → List Wy → List (Wy × Int)
  | _, [] => []
  | k, w :: l => (w, -k) :: alt (-k) l
def sgl {α : Type} : List α → Int
  | [] => 1
  | _ :: l => - sgl l
theorem alt_bal {root : Nat} {h : Hg} (t : HT root h) {u : Nd} (hu : u ∈ nds root h) (x : Nd) : ∀ {l : List Wy} {k : Int} {v : Nd}, v ∈ nds root h → pth h v = l ++ pth h u → bal (alt k l) x = (if x = v then -k else 0) + (if x = u then k * sgl l else 0) ∧ u.ep = v.ep * sgl l
  | [], k, v, hv, e => by
    have := t.inj hv hu e
    subst this
    refine ⟨?_, by show _ = _ * 1; omega⟩
    show 0 = _ + (if x = v then k * 1 else 0)
    by_cases c : x = v
    · rw [if_pos c, if_pos c]; omega
    · rw [if_neg c, if_neg c]; rfl
  | w :: l, k, v, hv, e => by
    obtain ⟨on, ho, e2⟩ := t.step hv e
    obtain ⟨ih1, ih2⟩ := alt_bal t hu x (k := -k) ho e2
    have ow : ∀ c : Int, (if x.on w = true then c else 0) = (if x = v then c else 0) + (if x = oth v w then c else 0) := by
      intro c
      have onx : x.on w = true ↔ (x = v ∨ x = oth v w) := by
        rcases on_is on with ⟨e1, e3⟩ | ⟨e1, e3⟩
        · rw [e1] at e3 ⊢
          cases x with
          | row r => simp [Nd.on, oth]
          | col r => simp [Nd.on, oth]
        · rw [e1] at e3 ⊢
          cases x with
          | row r => simp [Nd.on, oth]
          | col r => simp [Nd.on, oth]
      have dif : v ≠ oth v w := by
        rcases on_is on with ⟨e1, e3⟩ | ⟨e1, e3⟩ <;> rw [e1] <;> exact fun z => by cases z
      by_cases c1 : x = v
      · subst c1
        rw [if_pos (onx.mpr (.inl rfl)), if_pos rfl, if_neg dif]; omega
      · by_cases c2 : x = oth v w
        · rw [if_pos (onx.mpr (.inr c2)), if_neg c1, if_pos c2]; omega
        · rw [if_neg (fun z => (onx.mp z).elim c1 c2), if_neg c1, if_neg c2]; rfl
    refine ⟨?_, ?_⟩
    · show (if x.on w = true then -k else 0) + bal (alt (-k) l) x = _ + (if x = u then k * (- sgl l) else 0)
      rw [ow, ih1]
      have e4 : k * (- sgl l) = -k * sgl l := by rw [Int.mul_neg, Int.neg_mul]
      rw [e4]
      by_cases c2 : x = oth v w
      · rw [if_pos c2, if_pos c2]; omega
      · rw [if_neg c2, if_neg c2]; omega
    · rw [ih2]
      have : (oth v w).ep = - v.ep := by
        cases v <;> rfl
      rw [this]
      show - v.ep * sgl l = v.ep * (- sgl l)
      rw [Int.mul_neg, Int.neg_mul]
/-- as much goes into each place of a ring as out of it -/
theorem ring_bal {root : Nat} {h : Hg} (t : HT root h) {r c : Nat} {up down s : List Wy} (hr : Nd.row r ∈ nds root h) (hc : Nd.col c ∈ nds root h) (e1 : pth h (.row r) = up ++ s) (e2 : pth h (.col c) = down ++ s) (k : Int) (x : Nd) :
    bal (alt k up) x + bal (alt k down) x + (if x.on (r, c) = true then k else 0) = 0 := by
  obtain ⟨u, hu, eu⟩ := t.down hr e1
  obtain ⟨a1, a2⟩ := alt_bal t hu x (k := k) hr (by rw [eu]; exact e1)
  obtain ⟨b1, b2⟩ := alt_bal t hu x (k := k) hc (by rw [eu]; exact e2)
  have ex : (if x.on (r, c) = true then k else 0) = (if x = .row r then k else 0) + (if x = .col c then k else 0) := by
    cases x with
    | row q => by_cases z : q = r <;> simp [Nd.on, z]
    | col q => by_cases z : q = c <;> simp [Nd.on, z]
  have sg : sgl up + sgl down = 0 := by
    have a2 : u.ep = 1 * sgl up := a2
    have b2 : u.ep = -1 * sgl down := b2
    omega
  have z : k * sgl up + k * sgl down = 0 := by rw [← Int.mul_add, sg, Int.mul_zero]
  rw [a1, b1, ex]
  have n : ∀ (p : Prop) [Decidable p], (if p then -k else 0) = -(if p then k else 0) := fun p _ => by split <;> rfl
  have n3 : (if x = u then k * sgl up else 0) + (if x = u then k * sgl down else 0) = 0 := by
    by_cases c3 : x = u
    · rw [if_pos c3, if_pos c3, z]
    · rw [if_neg c3, if_neg c3]; rfl
  rw [n, n]
  omega
theorem ring_apart {root : Nat} {h : Hg} (t : HT root h) {v q : Nd} {up down s : List Wy} (e1 : pth h v = up ++ s) (e2 : pth h q = down ++ s) (st : ∀ w, up.getLast? = some w → down.getLast? ≠ some w) : ∀ w ∈ up, w ∉ down := by
  intro w h1 h2
  obtain ⟨a, b, rfl⟩ := List.append_of_mem h1
  obtain ⟨a', b', rfl⟩ := List.append_of_mem h2
  rw [List.append_assoc, List.cons_append] at e1 e2
  have e := List.append_cancel_right (t.same e1 e2)
  subst e
  have l1 : (a ++ w :: b).getLast? = (w :: b).getLast? := by simp [List.getLast?_append, List.getLast?_cons]
  have l2 : (a' ++ w :: b).getLast? = (w :: b).getLast? := by simp [List.getLast?_append, List.getLast?_cons]
  cases hl : (w :: b).getLast? with
  | none => simp at hl
  | some z => exact st z (l1.trans hl) (l2.trans hl)
end Fb

/-! Part HM3: trees that stay trees; amounts rounded; the first tree (mathematics). -/
namespace Fb
theorem bal_app (t u : List (Wy × Int)) (v : Nd) : bal (t ++ u) v = bal t v + bal u v := vsum_app _ _ _
theorem bal_pos (t : List (Wy × Int)) (h : ∀ p ∈ t, 0 ≤ p.2) (v : Nd) : bal (t.filter fun p => decide (0 < p.2)) v = bal t v := by
  induction t with
  | nil => rfl
  | cons p t ih =>
    have ih := ih fun q hq => h q (List.mem_cons_of_mem _ hq)
    have hp := h p List.mem_cons_self
    by_cases c : 0 < p.2
    · rw [List.filter_cons_of_pos (by simpa using c), bal_cons, bal_cons, ih]
    · rw [List.filter_cons_of_neg (by simpa using c), bal_cons, ih]
      have : p.2 = 0 := by omega
      rw [this]
      split <;> omega
/-- no amount of a tree is 0 -/
theorem strict {V : List Nd} {s : Nd → Int} {t : List (Wy × Int)} (nd : V.Nodup) (ne : V ≠ []) (n : Nondeg V s) (f : Feas V s t) (pos : ∀ p ∈ t, 0 ≤ p.2) (len : t.length + 1 ≤ V.length) : ∀ p ∈ t, 0 < p.2 := by
  have f' : Feas V s (t.filter fun p => decide (0 < p.2)) := ⟨fun p hp => f.1 p (List.mem_filter.mp hp).1, fun v hv => by rw [bal_pos t pos]; exact f.2 v hv⟩
  have h1 := conn_len nd ne (conn_of nd n f')
  rw [List.length_map] at h1
  have h2 := List.length_filter_le (fun p : Wy × Int => decide (0 < p.2)) t
  have h3 := List.length_filter_eq_length_iff.mp (show (t.filter fun p => decide (0 < p.2)).length = t.length by omega)
  exact fun p hp => of_decide_eq_true (h3 p hp)
section
variable {V : List Nd} {W : List Wy} {root : Nat} {h : Hg}
theorem nds_len : (nds root h).length = (wys h).length + 1 := by
  unfold nds wys
  rw [List.length_append, List.length_map, List.length_map]
  rfl
/-- a way that is not hung up yet has not both its ends up -/
theorem fresh_end (nd : V.Nodup) (cn : Conn V W) (len : W.length + 1 ≤ V.length) (t : HT root h) (rV : Nd.row root ∈ V) {R : List Wy} {w : Wy} (pm : W.Perm (wys h ++ w :: R)) : ¬ (Nd.row w.1 ∈ nds root h ∧ Nd.col w.2 ∈ nds root h) := fun ⟨h1, h2⟩ => by
  have g := grow nd cn R.length (nds root h) R rfl ⟨_, rV, root_in root h⟩ fun x hx => by
    rcases List.mem_append.mp (pm.mem_iff.mp hx) with m | m
    · exact .inr (t.ends x m)
    · rcases List.mem_cons.mp m with rfl | m
      · exact .inr ⟨h1, h2⟩
      · exact .inl m
  have l := pm.length_eq
  rw [List.length_append, List.length_cons] at l
  rw [nds_len] at g
  omega
/-- some way that is left has an end up -/
theorem some_end (cn : Conn V W) (en : ∀ w ∈ W, Nd.row w.1 ∈ V ∧ Nd.col w.2 ∈ V) (t : HT root h) (rV : Nd.row root ∈ V) {R : List Wy} (pm : W.Perm (wys h ++ R)) (ne : R ≠ []) : ∃ w ∈ R, Nd.row w.1 ∈ nds root h ∨ Nd.col w.2 ∈ nds root h := by
  apply Classical.byContradiction
  intro no
  have no : ∀ w ∈ R, Nd.row w.1 ∉ nds root h ∧ Nd.col w.2 ∉ nds root h := fun w hw => ⟨fun a => no ⟨w, hw, .inl a⟩, fun a => no ⟨w, hw, .inr a⟩⟩
  have all := cn (fun v => decide (v ∈ nds root h)) ⟨_, rV, decide_eq_true (root_in root h)⟩ fun w hw => by
    rcases List.mem_append.mp (pm.mem_iff.mp hw) with m | m
    · obtain ⟨h1, h2⟩ := t.ends w m
      rw [decide_eq_true h1, decide_eq_true h2]
    · obtain ⟨h1, h2⟩ := no w m
      rw [decide_eq_false h1, decide_eq_false h2]
  obtain ⟨w, hw⟩ := List.exists_mem_of_ne_nil R ne
  exact (no w hw).1 (of_decide_eq_true (all _ (en w (pm.mem_iff.mpr (List.mem_append_right _ hw))).1))
theorem all_up (cn : Conn V W) (t : HT root h) (rV : Nd.row root ∈ V) (pm : W.Perm (wys h)) : ∀ v ∈ V, v ∈ nds root h := fun v hv => by
  refine of_decide_eq_true (cn (fun v => decide (v ∈ nds root h)) ⟨_, rV, decide_eq_true (root_in root h)⟩ (fun w hw => ?_) v hv)
  obtain ⟨h1, h2⟩ := t.ends w (pm.mem_iff.mp hw)
  rw [decide_eq_true h1, decide_eq_true h2]
theorem nds_in (en : ∀ w ∈ W, Nd.row w.1 ∈ V ∧ Nd.col w.2 ∈ V) (t : HT root h) (rV : Nd.row root ∈ V) (sub : ∀ w ∈ wys h, w ∈ W) : ∀ v ∈ nds root h, v ∈ V := by
  induction t with
  | nil => exact fun v hv => by rw [List.mem_singleton.mp hv]; exact rV
  | @cons h n w t on o nn ih =>
    intro v hv
    rcases nds_cons.mp hv with rfl | hv
    · obtain ⟨h1, h2⟩ := en w (sub w List.mem_cons_self)
      rcases on_is on with ⟨e, _⟩ | ⟨e, _⟩
      · rw [e]; exact h1
      · rw [e]; exact h2
    · exact ih (fun x hx => sub x (List.mem_cons_of_mem _ hx)) v hv
end
/-! rounding -/
theorem no_mult {u p q : Int} (h : u * p + q = 0) (h1 : -u < q) (h2 : q < u) : p = 0 := by
  by_cases c : 1 ≤ p
  · have := Int.mul_le_mul_of_nonneg_left c (show 0 ≤ u by omega)
    omega
  · by_cases d : p ≤ -1
    · have := Int.mul_le_mul_of_nonneg_left d (show 0 ≤ u by omega)
      have e : u * -1 = -u := by rw [Int.mul_neg, Int.mul_one]
      omega
    · omega
theorem round_one {u m p q : Int} (hm : 2 * m < u) (h1 : -m ≤ q) (h2 : q ≤ m) : (u * p + q + m) / u = p := by
  rw [show u * p + q + m = (q + m) + u * p by omega, Int.add_mul_ediv_left _ _ (by omega), Int.ediv_eq_zero_of_lt (by omega) (by omega)]
  omega
def Small (m : Int) (q : Nd → Int) (N : List Nd) : Prop := ∀ D : List Nd, D.Nodup → (∀ v ∈ D, v ∈ N) → -m ≤ vsum D (fun v => v.ep * q v) ∧ vsum D (fun v => v.ep * q v) ≤ m
theorem Small.at {m : Int} {q : Nd → Int} {N : List Nd} (h : Small m q N) {v : Nd} (hv : v ∈ N) : -m ≤ q v ∧ q v ≤ m := by
  have := h [v] (List.nodup_cons.mpr ⟨by simp, List.nodup_nil⟩) (fun x hx => by rw [List.mem_singleton.mp hx]; exact hv)
  rw [vsum_cons, vsum_nil] at this
  cases v with
  | row r =>
    have e : (Nd.row r).ep = 1 := rfl
    rw [e] at this
    omega
  | col r =>
    have e : (Nd.col r).ep = -1 := rfl
    rw [e] at this
    omega
theorem oth_ne {v : Nd} {w : Wy} : oth v w ≠ v := by
  cases v <;> exact fun z => by cases z
theorem on_oth {v x : Nd} {w : Wy} (on : v.on w = true) : x.on w = true ↔ (x = v ∨ x = oth v w) := by
  rcases on_is on with ⟨e1, e3⟩ | ⟨e1, e3⟩
  · rw [e1] at e3 ⊢
    cases x <;> simp [Nd.on, oth]
  · rw [e1] at e3 ⊢
    cases x <;> simp [Nd.on, oth]
theorem off {root : Nat} {h : Hg} (t : HT root h) {n : Nd} (nn : n ∉ nds root h) (f : Wy → Int) : vsum h (fun e => if n.on e.2 = true then f e.2 else 0) = 0 := vsum_zero fun e he => by
  have hw : e.2 ∈ wys h := List.mem_map_of_mem he
  obtain ⟨h1, h2⟩ := t.ends e.2 hw
  rw [if_neg]
  intro c
  rcases on_is c with ⟨z, _⟩ | ⟨z, _⟩
  · exact nn (z ▸ h1)
  · exact nn (z ▸ h2)
/-- amounts taken so many times over, and a little more, give the amounts back -/
theorem round_ok {root : Nat} {u m : Int} (hm : 2 * m < u) (a : Wy → Int) {h : Hg} (t : HT root h) : ∀ p q : Nd → Int, (∀ v ∈ nds root h, vsum h (fun e => if v.on e.2 = true then a e.2 else 0) = u * p v + q v) → Small m q (nds root h) →
    ∀ v ∈ nds root h, vsum h (fun e => if v.on e.2 = true then (a e.2 + m) / u else 0) = p v := by
  induction t with
  | nil =>
    intro p q h1 h2 v hv
    have e := h1 v hv
    obtain ⟨b1, b2⟩ := h2.at hv
    rw [vsum_nil] at e
    rw [vsum_nil, no_mult e.symm (by omega) (by omega)]
  | @cons h n w t on o nn ih =>
    intro p q h1 h2
    have hn : n ∈ nds root ((n, w) :: h) := nds_cons.mpr (.inl rfl)
    have an := h1 n hn
    rw [vsum_cons, off t nn, if_pos on, Int.add_zero] at an
    have an : a w = u * p n + q n := an
    obtain ⟨b1, b2⟩ := h2.at hn
    have rw' : (a w + m) / u = p n := by rw [an]; exact round_one hm b1 b2
    have hIH := ih (fun v => if v = oth n w then p v - p n else p v) (fun v => if v = oth n w then q v - q n else q v) (fun v hv => by
      have e := h1 v (nds_cons.mpr (.inr hv))
      have vn : v ≠ n := ne_in hv nn
      rw [vsum_cons] at e
      by_cases c : v = oth n w
      · have e : (if v.on w = true then a w else 0) + _ = _ := e
        rw [if_pos ((on_oth on).mpr (.inr c))] at e
        show _ = u * (if v = oth n w then p v - p n else p v) + (if v = oth n w then q v - q n else q v)
        rw [if_pos c, if_pos c, Int.mul_sub]
        omega
      · have e : (if v.on w = true then a w else 0) + _ = _ := e
        rw [if_neg (fun z => ((on_oth on).mp z).elim vn c)] at e
        show _ = u * (if v = oth n w then p v - p n else p v) + (if v = oth n w then q v - q n else q v)
        rw [if_neg c, if_neg c]
        omega) (fun D nD hD => by
      have nD' : n ∉ D := fun z => nn (hD n z)
      have es : vsum D (fun v => v.ep * (if v = oth n w then q v - q n else q v)) = vsum D (fun v => v.ep * q v) + (if oth n w ∈ D then n.ep * q n else 0) := by
        have : vsum D (fun v => v.ep * (if v = oth n w then q v - q n else q v)) = vsum D (fun v => v.ep * q v + (if v = oth n w then n.ep * q n else 0)) := vsum_congr fun v _ => by
          by_cases c : v = oth n w
          · have ee : v.ep = - n.ep := by rw [c]; cases n <;> rfl
            rw [if_pos c, if_pos c, Int.mul_sub, ee, Int.neg_mul, Int.neg_mul]
            omega
          · rw [if_neg c, if_neg c]
            omega
        rw [this, vsum_add, vsum_one nD fun _ => n.ep * q n]
      show -m ≤ vsum D _ ∧ vsum D _ ≤ m
      rw [es]
      by_cases c : oth n w ∈ D
      · rw [if_pos c]
        have := h2 (n :: D) (List.nodup_cons.mpr ⟨nD', nD⟩) fun v hv => by
          rcases List.mem_cons.mp hv with rfl | hv
          · exact hn
          · exact nds_cons.mpr (.inr (hD v hv))
        rw [vsum_cons] at this
        omega
      · rw [if_neg c]
        have := h2 D nD fun v hv => nds_cons.mpr (.inr (hD v hv))
        omega)
    intro v hv
    rw [vsum_cons]
    show (if v.on w = true then (a w + m) / u else 0) + _ = _
    rw [rw']
    rcases nds_cons.mp hv with rfl | hv
    · rw [if_pos on, off t nn fun x => (a x + m) / u]
      omega
    · have e : _ = (if v = oth n w then p v - p n else p v) := hIH v hv
      rw [e]
      by_cases c : v = oth n w
      · rw [if_pos c, if_pos ((on_oth on).mpr (.inr c))]
        omega
      · rw [if_neg c, if_neg (fun z => ((on_oth on).mp z).elim (ne_in hv nn) c)]
        omega
/-! a little more in each row, all of it wanted by the last column -/
def plc (rows cols : List Nat) : List Nd := rows.map Nd.row ++ cols.map Nd.col
def bit (m : Int) (last : Nat) : Nd → Int
  | .row _ => 1
  | .col c => if c = last then m else 0
theorem plc_nodup {rows cols : List Nat} (nr : rows.Nodup) (nc : cols.Nodup) : (plc rows cols).Nodup := by
  unfold plc
  rw [List.nodup_append]
  refine ⟨?_, ?_, fun a ha b hb => ?_⟩
  · exact List.Pairwise.map _ (fun a b h e => h (Nd.row.inj e)) nr
  · exact List.Pairwise.map _ (fun a b h e => h (Nd.col.inj e)) nc
  · obtain ⟨x, _, rfl⟩ := List.mem_map.mp ha
    obtain ⟨y, _, rfl⟩ := List.mem_map.mp hb
    exact fun z => by cases z
theorem row_plc {rows cols : List Nat} {r : Nat} : Nd.row r ∈ plc rows cols ↔ r ∈ rows := by simp [plc]
theorem col_plc {rows cols : List Nat} {c : Nat} : Nd.col c ∈ plc rows cols ↔ c ∈ cols := by simp [plc]
theorem vsum_plc (rows cols : List Nat) (f : Nd → Int) : vsum (plc rows cols) f = vsum rows (fun r => f (.row r)) + vsum cols (fun c => f (.col c)) := by
  unfold plc
  rw [vsum_app]
  unfold vsum
  rw [List.map_map, List.map_map]
  rfl
theorem vsum_ones {α : Type} (V : List α) (S : α → Bool) : vsum V (fun v => if S v = true then 1 else 0) = ((V.filter S).length : Nat) := by
  induction V with
  | nil => rfl
  | cons v V ih =>
    rw [vsum_cons, ih]
    by_cases c : S v = true
    · rw [if_pos c, List.filter_cons_of_pos c, List.length_cons]; omega
    · rw [if_neg c, List.filter_cons_of_neg c]; omega
theorem nondeg_of {rows cols : List Nat} (nr : rows.Nodup) (nc : cols.Nodup) {p : Nd → Int} {last : Nat} (hl : last ∈ cols) (hp : ∀ v ∈ plc rows cols, 0 < p v) (tot : vsum (plc rows cols) (fun v => v.ep * p v) = 0) {u : Int} (hu : (rows.length : Int) < u) :
    Nondeg (plc rows cols) fun v => u * p v + bit rows.length last v := by
  intro S z ex
  have e : vsum (plc rows cols) (fun v => if S v = true then v.ep * (u * p v + bit rows.length last v) else 0) = u * vsum (plc rows cols) (fun v => if S v = true then v.ep * p v else 0) + vsum (plc rows cols) (fun v => if S v = true then v.ep * bit rows.length last v else 0) := by
    rw [← vsum_mul, ← vsum_add]
    refine vsum_congr fun v _ => ?_
    by_cases c : S v = true
    · rw [if_pos c, if_pos c, if_pos c, Int.mul_add, ← Int.mul_assoc, ← Int.mul_assoc, Int.mul_comm v.ep u]
    · rw [if_neg c, if_neg c, if_neg c, Int.mul_zero]; rfl
  rw [e] at z
  have eb : vsum (plc rows cols) (fun v => if S v = true then v.ep * bit rows.length last v else 0) = ((rows.filter fun r => S (.row r)).length : Nat) - (if S (.col last) = true then (rows.length : Int) else 0) := by
    rw [vsum_plc, ← vsum_ones]
    have e1 : vsum rows (fun r => if S (.row r) = true then (Nd.row r).ep * bit rows.length last (.row r) else 0) = vsum rows (fun r => if S (.row r) = true then 1 else 0) := vsum_congr fun r _ => by
      show (if _ then (1 : Int) * 1 else 0) = _
      rw [Int.one_mul]
    have e2 : vsum cols (fun c => if S (.col c) = true then (Nd.col c).ep * bit rows.length last (.col c) else 0) = vsum cols (fun c => if c = last then (if S (.col c) = true then -(rows.length : Int) else 0) else 0) := vsum_congr fun c _ => by
      show (if S (.col c) = true then (-1 : Int) * (if c = last then (rows.length : Int) else 0) else 0) = _
      by_cases h : c = last
      · rw [if_pos h, if_pos h, Int.neg_mul, Int.one_mul]
      · rw [if_neg h, if_neg h, Int.mul_zero]; split <;> rfl
    rw [e1, e2, vsum_one nc fun c => if S (.col c) = true then -(rows.length : Int) else 0, if_pos hl]
    by_cases h : S (.col last) = true
    · rw [if_pos h, if_pos h]; omega
    · rw [if_neg h, if_neg h]; omega
  rw [eb] at z
  have lf := List.length_filter_le (fun r => S (.row r)) rows
  generalize hA : vsum (plc rows cols) (fun v => if S v = true then v.ep * p v else 0) = A at z
  have a0 : A = 0 := no_mult (u := u) (p := A) z (by split <;> omega) (by split <;> omega)
  rw [a0, Int.mul_zero] at z
  -- what stands in S, rows and columns
  have rp : ∀ r ∈ rows, 0 < p (.row r) := fun r hr => hp _ (row_plc.mpr hr)
  have cp : ∀ c ∈ cols, 0 < p (.col c) := fun c hc => hp _ (col_plc.mpr hc)
  rw [vsum_plc] at hA tot
  by_cases h : S (.col last) = true
  · rw [if_pos h] at z
    have allr : ∀ r ∈ rows, S (.row r) = true := List.length_filter_eq_length_iff.mp (show (rows.filter fun r => S (.row r)).length = rows.length by omega)
    have e1 : vsum rows (fun r => if S (.row r) = true then (Nd.row r).ep * p (.row r) else 0) = vsum rows (fun r => (Nd.row r).ep * p (.row r)) := vsum_congr fun r hr => if_pos (allr r hr)
    have e2 : vsum cols (fun c => if S (.col c) = true then 0 else p (.col c)) = 0 := by
      have : vsum cols (fun c => if S (.col c) = true then 0 else p (.col c)) = vsum cols (fun c => if S (.col c) = true then (Nd.col c).ep * p (.col c) else 0) + -1 * vsum cols (fun c => (Nd.col c).ep * p (.col c)) := by
        rw [← vsum_mul, ← vsum_add]
        refine vsum_congr fun c _ => ?_
        show (if S (.col c) = true then (0 : Int) else p (.col c)) = (if S (.col c) = true then (-1 : Int) * p (.col c) else 0) + -1 * (-1 * p (.col c))
        simp only [Int.neg_mul, Int.one_mul]
        split <;> omega
      rw [this]
      omega
    have e3 := vsum_none (fun c hc => by split; exact Int.le_refl _; exact Int.le_of_lt (cp c hc)) e2
    intro v hv
    cases v with
    | row r => exact allr r (row_plc.mp hv)
    | col c =>
      have hc := col_plc.mp hv
      have e4 := e3 c hc
      by_cases g : S (.col c) = true
      · exact g
      · rw [if_neg g] at e4
        have := cp c hc
        omega
  · rw [if_neg h] at z
    have lf0 : (rows.filter fun r => S (.row r)).length = 0 := by omega
    have nor : ∀ r ∈ rows, ¬ S (.row r) = true := fun r hr c => by
      have : r ∈ rows.filter fun r => S (.row r) := List.mem_filter.mpr ⟨hr, c⟩
      rw [List.length_eq_zero_iff.mp lf0] at this
      cases this
    have e1 : vsum rows (fun r => if S (.row r) = true then (Nd.row r).ep * p (.row r) else 0) = 0 := vsum_zero fun r hr => if_neg (nor r hr)
    have e2 : vsum cols (fun c => if S (.col c) = true then p (.col c) else 0) = 0 := by
      have : vsum cols (fun c => if S (.col c) = true then p (.col c) else 0) = -1 * vsum cols (fun c => if S (.col c) = true then (Nd.col c).ep * p (.col c) else 0) := by
        rw [← vsum_mul]
        refine vsum_congr fun c _ => ?_
        show _ = -1 * (if _ then (-1 : Int) * _ else 0)
        split
        · rw [← Int.mul_assoc, show (-1 : Int) * -1 = 1 from rfl, Int.one_mul]
        · rfl
      rw [this]
      omega
    have e3 := vsum_none (fun c hc => by split; exact Int.le_of_lt (cp c hc); exact Int.le_refl _) e2
    obtain ⟨v, hv, sv⟩ := ex
    cases v with
    | row r => exact absurd sv (nor r (row_plc.mp hv))
    | col c =>
      have hc := col_plc.mp hv
      have e4 := e3 c hc
      rw [if_pos sv] at e4
      have := cp c hc
      omega
theorem bit_small {rows cols : List Nat} {last : Nat} : Small rows.length (bit rows.length last) (plc rows cols) := by
  intro D nD hD
  have e : vsum D (fun v => v.ep * bit rows.length last v) = vsum D (fun v => if (match v with | .row _ => true | .col _ => false) = true then 1 else 0) + vsum D (fun v => if v = .col last then -(rows.length : Int) else 0) := by
    rw [← vsum_add]
    refine vsum_congr fun v _ => ?_
    cases v with
    | row r => rfl
    | col c =>
      show (-1 : Int) * (if c = last then (rows.length : Int) else 0) = 0 + _
      by_cases h : c = last
      · rw [if_pos h, if_pos (by rw [h]), Int.neg_mul, Int.one_mul]; omega
      · rw [if_neg h, if_neg (fun z => h (Nd.col.inj z))]; rfl
  rw [e, vsum_ones, vsum_one nD fun _ => -(rows.length : Int)]
  have l1 : (D.filter fun v => match v with | .row _ => true | .col _ => false).length ≤ (rows.map Nd.row).length := sub_len (nD.filter _) fun v hv => by
    obtain ⟨h1, h2⟩ := List.mem_filter.mp hv
    cases v with
    | row r => exact List.mem_map_of_mem (row_plc.mp (hD _ h1))
    | col c => cases h2
  rw [List.length_map] at l1
  split <;> omega
end Fb

/-! Part HR1: dicts with tuple keys: their pairs one by one, del; every second item of a list; min and sorted of data. -/
namespace Fb
open PySem PySem.Spec PyProof.Rows L2
/-! ### the pairs of a dict with tuple keys -/
def Itit (d : Addr) (o : Obj) (kvs : List (List Key × V)) : It :=
  ⟨fun i H => H d = some (.frz o (.dT kvs)) ∧ i < kvs.length, fun i H x H' => ∃ T k v q, kvs[i]? = some (k, v) ∧ x = .ref T ∧ H T = none ∧ H q = some (.tup (k.map kV)) ∧ H' = upd H T (.tup [.ref q, v]), fun i H => H d = some (.frz o (.dT kvs)) ∧ kvs.length ≤ i⟩
theorem frzT2 {X : Cx} {pins : List (Addr × Obj)} {σ : L2.St} {H : Hp} {s : Shared} {d : Addr} {o : Obj} {kvs : List (List Key × V)} (I : Inv X pins σ H s) (h : H d = some (.frz o (.dT kvs))) :
    (d == sysModules) = false ∧ s.heap.get? d = some o ∧ o.ExactDict ∧ ∃ (es : Array DictEntry) (ep : Nat), o.data = .dict es ep ∧ es.size = kvs.length ∧
      ∀ (i : Nat) (k : List Key) (v : V), kvs[i]? = some (k, v) → ∃ (en : DictEntry) (q : Addr), es[i]? = some en ∧ en.key = .ref q ∧ RelV v en.val ∧ H q = some (.tup (k.map kV)) := by
  obtain ⟨hd, z, hs, xs, pr, o', es, ep, ho, hx, hdt, he, _⟩ := I.hok d _ h
  rw [hd] at ho
  cases ho
  refine ⟨hs, hd, hx, es, ep, hdt, ?_, fun i k v e => ?_⟩
  · have l1 : es.size = xs.length := size_of_entries he
    have l2 : kvs.length = xs.length := Paired.length pr
    omega
  · obtain ⟨b, hb, e1, e2, e3⟩ := paired_get pr e
    have q := entry_at he i
    rw [hb] at q
    exact ⟨_, b.2.1, q, rfl, e3, e2⟩
section
variable {P : Program} {w : World} {K : PySem.W.Frag} {d : Addr} {o : Obj} {es : Array DictEntry} {ep : Nat}
theorem turn_itemsT {kvs : List (List Key × V)} {elts : List Expr} {kk : Nat} {tpos : Pos} (it : Addr) (hod : o.data = .dict es ep) :
    Turn P w K (.Tuple elts kk tpos) (Itit d o kvs) [it] it (fun i h => ∃ ok ov, IsItemIter h it d i kvs.length ep ok ov) where
  mem := by simp
  obj := fun i h st b hb => by
    have e : b = it := by simpa using hb
    subst e
    obtain ⟨ok, ov, e⟩ := st
    exact ⟨_, e, fun v z => nomatch z⟩
  keep := fun i h h' st k => let ⟨ok, ov, e⟩ := st; ⟨ok, ov, k it (by simp) _ e⟩
  item := by
    intro X hP hw hK hc i pins s σ H E I hf st hg
    subst hP hw hK
    obtain ⟨hd, hi⟩ := hg
    obtain ⟨hs, hgd, hx, es', ep', hdt, hsz, ent⟩ := frzT2 I hd
    obtain ⟨rfl, rfl⟩ := dict_ep hod hdt
    obtain ⟨⟨k, v⟩, hkv⟩ : ∃ p, kvs[i]? = some p := ⟨kvs[i], List.getElem?_eq_getElem hi⟩
    obtain ⟨en, q, hen, hkey, hval, hq⟩ := ent i k v hkv
    obtain ⟨ok, ov, he⟩ := st
    rw [← hsz] at he
    have hlt : it < s.heap.objs.size := Heap.lt_size he
    obtain ⟨hie, hen'⟩ := Array.getElem?_eq_some_iff.mp hen
    refine DT.nextI he ⟨o, hgd, hx, hod⟩ hie fun h' ho hT hz hk => ?_
    rw [hen', hkey] at ho hT
    refine ⟨_, rfl, wpAny_letOwnedTupleGo_items (s := { s with heap := h' }) ho fun h'' he' sb => ?_⟩
    have hT2 : h''.get? s.heap.objs.size = some { cls := .type "tuple", data := .seq #[.ref q, en.val] } := (sb.2 _ (Nat.ne_of_gt hlt)).trans hT
    have new : ObjOk X.prog X.w (upd H s.heap.objs.size (.tup [.ref q, v])) h'' s.heap.objs.size (.tup [.ref q, v]) :=
      ⟨by show 2 ≤ sizeLine; decide, [.ref q, en.val], .cons rfl (.cons hval .nil), ⟨_, hT2, rfl, _, rfl⟩⟩
    have I1 : Inv X pins σ (upd H s.heap.objs.size (.tup [.ref q, v])) { s with heap := h'' } :=
      I.turnedNew (t' := s.toks) (ch := [it]) (fun b ob hb e => (sb.2 b (by simpa using hb)).trans (hk b ob (by simpa using hb) e)) hf (Nat.le_refl _) new
    refine ⟨.ref s.heap.objs.size, _, I1, rfl, ⟨_, k, v, q, hkv, rfl, I.hok.fresh (Nat.le_refl _), hq, rfl⟩, ⟨.ref q, en.val, ?_⟩, fun b hb => ?_⟩
    · rw [← hsz]; exact he'
    · have e : b = it := by simpa using hb
      rw [e, upd_ne (Nat.ne_of_lt hlt)]
      exact (hf it (by simp)).1
  done := by
    intro X hP hw hK hc i pins s σ H E I hf st hg
    subst hP hw hK
    obtain ⟨hd, hi⟩ := hg
    obtain ⟨f0, f1, f2, f3, f4, f5⟩ := hf it (by simp)
    obtain ⟨hs, hgd, hx, es', ep', hdt, hsz, ent⟩ := frzT2 I hd
    obtain ⟨rfl, rfl⟩ := dict_ep hod hdt
    obtain ⟨ok, ov, he⟩ := st
    rw [← hsz] at he
    exact DT.endI (I.ok.hd hc) he ⟨o, hgd, hx, hod⟩ (by omega) fun h' eb => ⟨rfl, I.turned (t' := s.toks) (fun b ob hb e => eb b ob hb e) f0 f1 f3 f4 f5⟩
  self := fun A i s Q E st h => let ⟨_, _, e⟩ := st; PySem.W.kcp_self e h
end
def iItemsT (td : TE) : TI := fun σ H R => td σ H fun x H1 => ∃ d o kvs, x = .ref d ∧ H1 d = some (.frz o (.dT kvs)) ∧ R (Itit d o kvs) H1
section
variable {X : Cx} {e : Expr} {td : TE} {apos cpos : Pos}
theorem pi_itemsT {elts : List Expr} {kk : Nat} {tpos : Pos} (he : PE X e td) (hbase : attributeBase e "items" X.env (eval e X.env) = eval e X.env := by rfl) (hline : (apos.endLine == cpos.line) = true := by rfl) :
    PI X (.Tuple elts kk tpos) (.Call (.Attribute e "items" apos) [] [] cpos) (iItemsT td) := by
  refine ⟨fun pins s σ H R I h => ?_⟩
  refine wpAny_Call_method (T := "dict") (id := "dict.items") hbase rfl hline F.plainAttrs_dict F.slot_dict_items F.type_dict_items (thn (he.run pins s σ H _ I h) fun u s1 ⟨x, H1, I1, rx, d, o, kvs, ex, hd, q⟩ => ?_)
  subst ex
  obtain rfl : u = Value.ref d := rx
  obtain ⟨hs, hgd, hx, es, ep, hdt, hsz, ent⟩ := frzT2 I1 hd
  have raw : DT.Raw s1.heap d es ep := ⟨o, hgd, hx, hdt⟩
  refine ⟨raw.typeIs, (fun b q => by cases q; exact ⟨o, hgd, hx.2.1⟩), ?_⟩
  have I2 : Inv X pins σ H1 { s1 with heap := s1.heap.push { cls := .type "dict_items", data := .fields #[.ref d] } } := I1.kept (t' := s1.toks) fun b ob q => Heap.get?_push_of_some _ q
  have fin : wpAny (model X.prog X.w) X.A (pyIter (.ref s1.heap.objs.size)) (PIE X pins σ (.Tuple elts kk tpos) R) X.xe { s1 with heap := s1.heap.push { cls := .type "dict_items", data := .fields #[.ref d] } } := by
    refine DT.iterI (d := d) ⟨_, Heap.get?_push_size _ rfl, rfl, rfl⟩ (raw.push _) (pi_one (tk := s1.toks) I2 _ (turn_itemsT _ hdt) ⟨.none, .none, ?_⟩ q)
    rw [hsz]
    exact Heap.get?_push_size _ rfl
  show wpAny _ _ (callWith cpos (.builtin "dict.items") [.ref d] [] []) _ X.xe s1
  exact method_meetsIn F.slot_dict_items F.entry_dict_items rfl (PySem.evalArgs_none ⟨rfl, raw.typeIs, F.args_dict_items_1 _, _, DT.meetsItems hs, ⟨raw, fin⟩⟩)
end
theorem walk_itemsT {d : Addr} {o : Obj} {kvs : List (List Key × V)} : Walk (Itit d o kvs) kvs.length (fun H => H d = some (.frz o (.dT kvs)))
    (fun i H x H' => ∃ T k v q, kvs[i]? = some (k, v) ∧ x = .ref T ∧ H T = none ∧ H q = some (.tup (k.map kV)) ∧ H' = upd H T (.tup [.ref q, v])) :=
  ⟨fun _ _ hi q => ⟨q, hi⟩, fun _ q => ⟨q, Nat.le_refl _⟩, fun _ _ _ _ _ _ y => y⟩
/-! ### del d[k], a tuple -/
section
variable {prog : Program} {w : World} {K : Type} [DecidableEq K] {knd : HeapKind prog w K} {d b : Addr} {k : K}
theorem meetsDelT : MeetsIn prog w (Builtin.«dict.__delitem__» ⟨[.ref d, .ref b], []⟩) (fun A R s => ∃ xs, knd.room A.in1 ∧ knd.is s.heap k b ∧ s.heap.DictOfH knd d xs ∧ xs.length ≤ sizeLine ∧ (atKey xs k).isSome = true ∧
      ∀ h' tk, h'.DictOfH knd d (DT.dropH xs k) → Heap.SameBut d s.heap h' → R (.ok (.ret .none)) { s with heap := h', toks := tk }) :=
  .of_wp fun A R s ⟨xs, hu, hkey, hm, hsz, hthere, h⟩ => by
    unfold Builtin.«dict.__delitem__»
    refine wpAny_bind ?_
    unfold Builtin.Dict.dictSlotArgs
    refine wpAny_bind (wpAny_notOrdered_dict hm.typeIs ?_)
    show wpAny _ _ (pure (Value.ref d, Value.ref b)) _ _ s
    refine wpAny_pure ?_
    show wpAny _ _ (Builtin.Dict.takeOut d (.ref b) >>= _) _ _ s
    refine wpAny_bind (DT.takeH hu hkey hm hsz (fun hn => by rw [hn] at hthere; exact absurd hthere (by decide)) fun p e _ _ h' hm' hs' => ?_)
    exact wpAny_bind (wpAny_letGo (wpAny_pure ⟨.none, rfl, h h' _ hm' hs'⟩))
end
def sDDelT (td ty : TE) : L2.TS := fun D σ H => td σ H fun x H1 => ty σ H1 fun y H2 => ∃ a kvs k b, x = .ref a ∧ H2 a = some (.dT kvs) ∧ y = .ref b ∧ H2 b = some (.tup (k.map kV)) ∧ (valV kvs k).isSome = true ∧ D.nx σ (upd H2 a (.dT (dropK kvs k)))
section
variable {X : Cx} {o i : Expr} {pos tpos : Pos} {td ty : TE}
theorem ps_ddelT (hu : X.A.units + 1 < cLine) (ho : PE X o td) (hi : PE X i ty) : PS X (.Delete [.Subscript o i tpos] pos) (sDDelT td ty) := by
  refine ⟨fun pins s σ H D I h => ?_⟩
  refine wpAny_Delete (wpAny_deleteEach_cons (wpAny_delete_Subscript (thn (ho.run pins s σ H _ I h) fun u s1 ⟨x, H1, I1, rx, q1⟩ => thn (hi.run pins s1 σ H1 _ I1 q1) fun iv s2 ⟨y, H2, I2, ry, a, kvs, k, b, ex, e, ey, eb, l, q2⟩ => ?_)))
  subst ex ey
  obtain rfl : u = Value.ref a := rx
  obtain rfl : iv = Value.ref b := ry
  obtain ⟨z, hd, xs', rel, dd⟩ := dt_of I2.hok e
  have hz : xs'.length ≤ sizeLine := by rw [← Paired.length rel]; exact z
  have hl : (atKey xs' k).isSome = true := by
    have r := rel.val k
    cases ea : atKey xs' k with
    | some p => rfl
    | none =>
      rw [ea] at r
      cases ev : valV kvs k with
      | none => rw [ev] at l; cases l
      | some v0 => rw [ev] at r; exact (show False from r).elim
  refine wpAny_delItem_slot dd.typeIs (by decide) PySem.F.slot_dict_delitem
    (call_meetsIn PySem.F.slot_dict_delitem dd.typeIs PySem.F.entry_dict_delitem (PySem.F.args_dict_delitem_2 _ _) (meetsDelT (knd := tupleKind (mixKind X.prog X.w)) (k := k))
      ⟨xs', tupleKind_room_in1 hu, key_of I2.hok eb, dd, hz, hl, fun h' tk dd' hs => ?_⟩)
  refine wpAny_deleteEach_nil ⟨σ, _, ?_, q2⟩
  obtain ⟨o, es, ep, hq, h2, h3, h4, _, h5⟩ := dd'
  exact d_write I2 (by rw [e]; exact True.intro) hs ⟨o, hq⟩ ⟨Nat.le_trans (dropK_le kvs k) z, hd, _, (L2.DX.KT_drop k rel).keeps (fun c ys ec => (by rw [upd_ne (ne_of ec e (fun z => nomatch z))]; exact ec)), o, es, ep, hq, h2, h3, h4, h5⟩
end
/-! ### every second item -/
def evensL {α : Type} : List α → List α
  | [] => []
  | [x] => [x]
  | x :: _ :: l => x :: evensL l
theorem fm_congr {α β : Type} {f g : α → Option β} : ∀ {l : List α}, (∀ x ∈ l, f x = g x) → l.filterMap f = l.filterMap g
  | [], _ => rfl
  | x :: l, h => by
    rw [List.filterMap_cons, List.filterMap_cons, h x List.mem_cons_self, fm_congr fun y hy => h y (List.mem_cons_of_mem _ hy)]
theorem pick2 {α : Type} : ∀ l : List α, (List.range ((l.length + 1) / 2)).filterMap (fun k => l[2 * k]?) = evensL l
  | [] => by simp [evensL]
  | [x] => by simp [evensL, List.range_succ]
  | x :: y :: l => by
    have e : ((x :: y :: l).length + 1) / 2 = (l.length + 1) / 2 + 1 := by
      rw [List.length_cons, List.length_cons]
      omega
    have e1 : (x :: y :: l)[2 * 0]? = some x := rfl
    rw [e, List.range_succ_eq_map, List.filterMap_cons, List.filterMap_map, e1]
    show x :: _ = x :: evensL l
    rw [← pick2 l]
    rfl
theorem evens_vals : ∀ {xs : List V} {us : List Value}, Vals xs us → Vals (evensL xs) (evensL us)
  | _, _, .nil => .nil
  | _, _, .cons h .nil => .cons h .nil
  | _, _, .cons h (.cons _ t) => .cons h (evens_vals t)
theorem evens_len {α : Type} : ∀ l : List α, (evensL l).length ≤ l.length
  | [] => Nat.le_refl _
  | [x] => Nat.le_refl _
  | x :: y :: l => by
    have := evens_len l
    show (evensL l).length + 1 ≤ l.length + 1 + 1
    omega
theorem range2 (a n : Nat) (h : a ≤ n) : sliceRange (a : Int) (n : Int) 2 = (List.range ((n - a + 1) / 2)).map fun k => a + 2 * k := by
  unfold sliceRange
  have e : (if (2 : Int) > 0 then (if (a : Int) < (n : Int) then ((n : Int) - (a : Int) + 2 - 1) / 2 else 0) else (if (a : Int) > (n : Int) then ((a : Int) - (n : Int) - 2 - 1) / (-2) else 0)) = (((n - a + 1) / 2 : Nat) : Int) := by
    rw [if_pos (by decide)]
    split <;> omega
  show (List.range (Int.toNat (if (2 : Int) > 0 then (if (a : Int) < (n : Int) then ((n : Int) - (a : Int) + 2 - 1) / 2 else 0) else (if (a : Int) > (n : Int) then ((a : Int) - (n : Int) - 2 - 1) / (-2) else 0)))).map _ = _
  rw [e, Int.toNat_natCast]
  refine List.map_congr_left fun k _ => ?_
  omega
theorem pick_evens (items : Array Value) : slicePick items none none (some 2) = (evensL items.toList).toArray := by
  unfold slicePick
  have e : sliceBounds none none (some 2) items.size = (((0 : Nat) : Int), ((items.size : Nat) : Int), 2) := rfl
  rw [e]
  dsimp only
  rw [range2 0 _ (Nat.zero_le _), List.filterMap_map, ← pick2 items.toList]
  congr 1
  rw [Array.length_toList]
  refine fm_congr fun k _ => ?_
  show items[0 + 2 * k]? = _
  rw [Nat.zero_add, Array.getElem?_toList]
theorem pick_odds (items : Array Value) : slicePick items (some 1) none (some 2) = (evensL (items.toList.drop 1)).toArray := by
  unfold slicePick
  have e : sliceBounds (some 1) none (some 2) items.size = (((min 1 items.size : Nat) : Int), ((items.size : Nat) : Int), 2) := by
    have e0 : sliceBounds (some 1) none (some 2) items.size = (max 0 (min 1 ((items.size : Nat) : Int)), ((items.size : Nat) : Int), 2) := rfl
    rw [e0]
    congr 1
    omega
  rw [e]
  dsimp only
  rw [range2 _ _ (Nat.min_le_right _ _), List.filterMap_map, ← pick2 (items.toList.drop 1)]
  congr 1
  rw [List.length_drop, Array.length_toList]
  have e2 : (items.size - min 1 items.size + 1) / 2 = (items.size - 1 + 1) / 2 := by omega
  rw [e2]
  refine fm_congr fun k hk => ?_
  have hk := List.mem_range.mp hk
  show items[min 1 items.size + 2 * k]? = _
  rw [List.getElem?_drop, Array.getElem?_toList]
  by_cases z : items.size = 0
  · rw [Array.getElem?_eq_none (by omega), Array.getElem?_eq_none (by omega)]
  · rw [show min 1 items.size = 1 by omega]
def tStep2 (K : PySem.W.Frag) (f : List V → List V) (te : TE) : TE := fun σ H Q => te σ H fun x H1 => ∃ a xs, x = .ref a ∧ SqL K H1 a xs ∧ ∀ p, H1 p = none → Q (.ref p) (upd H1 p (.lst (f xs)))
theorem pe_step2 {X : Cx} {e : Expr} {te : TE} {k : Nat} {lo : Option Expr} {l0 : Option Int} {p1 p3 pos : Pos} {f : List V → List V} {g : List Value → List Value} {tl : TO} (he : PE X e te) (hlo : PO X lo tl) (ht : ∀ σ H (Q : Option Int → Hp → Prop), Q l0 H → tl σ H Q)
    (hp : ∀ items, slicePick items l0 none (some 2) = (g items.toList).toArray) (hv : ∀ {xs us}, Vals xs us → Vals (f xs) (g us)) (hl : ∀ xs, (f xs).length ≤ xs.length) :
    PE X (.Subscript e (.Slice lo none (some (.Constant (.int 2) k p1)) p3) pos) (tStep2 X.K f te) := by
  refine ⟨fun pins s σ H Q I h => ?_⟩
  refine Subscript_ (thn (he.run pins s σ H _ I h) fun v s1 ⟨x, H1, I1, r1, q1⟩ => ?_)
  obtain ⟨a, xs, ex, hx, q⟩ := q1
  subst ex
  cases r1
  have hst : PO X (some (.Constant (.int 2) k p1)) (tPart (tC (.int 2))) := po_some pe_int
  refine wpAny_Slice (thn (hlo.run pins s1 σ H1 (fun o H2 => o = l0 ∧ H2 = H1) I1 (ht _ _ _ ⟨rfl, rfl⟩)) fun vl s2 ⟨l, H2, I2, pl, el, e2⟩ => ?_)
  subst el e2
  refine thn (po_none.run pins s2 σ H2 (fun o H3 => o = none ∧ H3 = H2) I2 ⟨rfl, rfl⟩) fun vu s3 ⟨u, H3, I3, pu, eu, e3⟩ => ?_
  subst eu e3
  refine thn (hst.run pins s3 σ H3 (fun o H4 => o = some 2 ∧ H4 = H3) I3 ⟨2, rfl, rfl, rfl⟩) fun vs s4 ⟨o, H4, I4, ps, eo, e4⟩ => ?_
  subst eo e4
  have I5 : Inv X pins σ H4 { s4 with heap := s4.heap.push { cls := .type "slice", data := .fields #[vl, vu, vs] } } := I4.kept (t' := s4.toks) fun b ob q => Heap.get?_push_of_some _ q
  obtain ⟨its, r, ht, hz⟩ := I5.list hx
  have hlen := r.length
  show wpAny (model X.prog X.w) X.A (subscriptTail e (.Slice lo none (some (.Constant (.int 2) k p1)) p3) (.ref a) (.ref s4.heap.objs.size)) (EP X pins σ Q) X.xe { s4 with heap := s4.heap.push { cls := .type "slice", data := .fields #[vl, vu, vs] } }
  refine tail_any (ops := [.ref a, .ref s4.heap.objs.size]) ht.isList.typeIs (PySem.slot_list_getitem.lookup) ?_ (by with_unfolding_all rfl)
  refine wpAny_getItem_list_slice ht.isList (Heap.IsSliceOf.new _ vl vu vs) pl pu ps (by decide) ?_ (by rw [List.size_toArray]; omega)
  rw [hp]
  refine ⟨.ref _, _, I5.laid (t' := s4.toks) (o := .lst (f xs)) (fun b ob q => Heap.get?_push_of_some _ q) (Nat.le_refl _) ?_, rfl, q _ (I5.hok.fresh (Nat.le_refl _))⟩
  exact ⟨Nat.le_trans (hl xs) hz, _, 0, hv r, Heap.get?_push_size _ rfl⟩
theorem pe_evens {X : Cx} {e : Expr} {te : TE} {k : Nat} {p1 p3 pos : Pos} (he : PE X e te) : PE X (.Subscript e (.Slice none none (some (.Constant (.int 2) k p1)) p3) pos) (tStep2 X.K evensL te) :=
  pe_step2 (l0 := none) (g := evensL) he po_none (fun _ _ _ h => h) pick_evens evens_vals evens_len
theorem pe_odds {X : Cx} {e : Expr} {te : TE} {k k0 : Nat} {p0 p1 p3 pos : Pos} (he : PE X e te) : PE X (.Subscript e (.Slice (some (.Constant (.int 1) k0 p0)) none (some (.Constant (.int 2) k p1)) p3) pos) (tStep2 X.K (fun xs => evensL (xs.drop 1)) te) :=
  pe_step2 (l0 := some 1) (g := fun us => evensL (us.drop 1)) he (po_some pe_int) (fun _ _ _ h => ⟨1, rfl, h⟩) pick_odds (fun r => evens_vals (r.drop 1)) (fun xs => Nat.le_trans (evens_len _) (by rw [List.length_drop]; omega))
/-! ### min and sorted of data -/
section
variable {X : Cx}
theorem dpAll_len {K : PySem.W.Frag} {H : Hp} : ∀ {xs : List V} {ds : List PyData}, DpAll K H xs ds → xs.length = ds.length
  | [], [], _ => rfl
  | x :: xs, d :: ds, h => by
    cases h with
    | cons _ h2 => rw [List.length_cons, List.length_cons, dpAll_len h2]
  | [], _ :: _, h => by cases h
  | _ :: _, [], h => by cases h
def rMinD (K : PySem.W.Frag) : List V → Hp → VK → Prop := fun vs H Q => ∃ (a : Addr) (xs : List V) (d : PyData) (ds : List PyData), vs = [.ref a] ∧ SqL K H a xs ∧ DpAll K H xs (d :: ds) ∧ PySem.W.AlikeAll (d :: ds) ∧ PyData.depthAll (d :: ds) ≤ 8 ∧
  ∀ (i : Nat) x, xs[i]? = some x → (d :: ds)[i]? = some (PySem.W.minD d ds) → Q x H
theorem cr_minD (hc : X.calm = true) (hu : X.A.units + 64 < cLine) : CallR X (.builtin "min") (rMinD X.K) := by
  intro pins s σ H vs us Q I r h
  obtain ⟨a, xs, d, ds, rfl, hx, hd, al, dp, q⟩ := h
  rw [Vals.ref1 r]
  obtain ⟨its, rv, hl, hz⟩ := I.list hx
  obtain ⟨as, rs⟩ := Dp.readsAll I _ _ _ hd rv
  refine PySem.W.min_list_data (I.ok.hd hc) hl.isList (by simpa using rs) al (by omega) fun i v h' tk bs hi rd hk => ?_
  have hi' : its[i]? = some v := by simpa using hi
  obtain ⟨il, _⟩ := List.getElem?_eq_some_iff.mp hi'
  have lx := rv.length
  have xi : xs[i]? = some (xs[i]'(by omega)) := List.getElem?_eq_getElem _
  obtain ⟨u, hu', ru⟩ := rv.get xi
  rw [hi'] at hu'
  cases hu'
  have ld := dpAll_len hd
  obtain ⟨bs2, r2, _⟩ := PySem.W.readsAll_at rs i v hi'
  have e := reads_det (h := s.heap) (h' := h') (fun b o e _ => hk b o e) r2 rd
  refine ⟨xs[i]'(by omega), H, I.kept (t' := tk) hk, ru, q i _ xi ?_⟩
  rw [e.1]
  rw [List.getElem?_eq_getElem (by omega)]
  congr 1
  rw [List.getD_eq_getElem?_getD, List.getElem?_eq_getElem (by omega)]
  rfl
def rSortD (K : PySem.W.Frag) : List V → Hp → VK → Prop := fun vs H Q => ∃ (a : Addr) (xs : List V) (ds : List PyData), vs = [.ref a] ∧ SqL K H a xs ∧ DpAll K H xs ds ∧ PySem.W.AllAlike ds ∧ PySem.W.Sortable ds ∧ (∀ d ∈ ds, PyData.depth d ≤ 8) ∧
  ∀ (xs' : List V) (p : Addr), xs'.Perm xs → H p = none → Q (.ref p) (upd H p (.lst xs'))
theorem zip_fst {α β : Type} : ∀ {xs : List α} {ys : List β}, xs.length = ys.length → (xs.zip ys).map Prod.fst = xs
  | [], [], _ => rfl
  | x :: xs, y :: ys, h => by
    rw [List.zip_cons_cons, List.map_cons, zip_fst (by simpa using h)]
theorem zip_snd {α β : Type} : ∀ {xs : List α} {ys : List β}, xs.length = ys.length → (xs.zip ys).map Prod.snd = ys
  | [], [], _ => rfl
  | x :: xs, y :: ys, h => by
    rw [List.zip_cons_cons, List.map_cons, zip_snd (by simpa using h)]
theorem each_zip {R : Value → V → Prop} : ∀ {xs : List V} {ds : List PyData} {us : List Value}, xs.length = ds.length → Vals xs us → PySem.W.EachIs (fun v (b : V × PyData) => RelV b.1 v) us (xs.zip ds)
  | [], [], _, _, .nil => .nil
  | x :: xs, d :: ds, _, h, .cons r t => .cons r (each_zip (R := R) (by simpa using h) t)
theorem each_reads {h : Heap} : ∀ {xs : List V} {ds : List PyData} {us : List Value} {as : List Addr}, xs.length = ds.length → ReadsAll h us ds as → us.length = ds.length → PySem.W.EachIs (fun v (b : V × PyData) => ∃ as, Reads h v b.2 as) us (xs.zip ds)
  | [], [], us, _, _, r, l => by
    cases us with
    | nil => exact .nil
    | cons _ _ => cases l
  | x :: xs, d :: ds, us, _, h, r, l => by
    cases r with
    | cons r1 r2 => exact .cons ⟨_, r1⟩ (each_reads (by simpa using h) r2 (by simpa using l))
theorem vals_of_each : ∀ {bs : List (V × PyData)} {us : List Value}, PySem.W.EachIs (fun v (b : V × PyData) => RelV b.1 v) us bs → Vals (bs.map Prod.fst) us
  | _, _, .nil => .nil
  | _, _, .cons r t => .cons r (vals_of_each t)
theorem cr_sortD (hu : X.A.units + 64 < cLine) : CallR X (.builtin "sorted") (rSortD X.K) := by
  intro pins s σ H vs us Q I r h
  obtain ⟨a, xs, ds, rfl, hx, hd, al, so, dp, q⟩ := h
  rw [Vals.ref1 r]
  obtain ⟨its, rv, hl, hz⟩ := I.list hx
  obtain ⟨as, rs⟩ := Dp.readsAll I _ _ _ hd rv
  have ld := dpAll_len hd
  have lx := rv.length
  have lz : (xs.zip ds).length = xs.length := by rw [List.length_zip, ld, Nat.min_self]
  refine PySem.W.sorted_data (bs := xs.zip ds) (enc := Prod.snd) (R := fun v b => RelV b.1 v) (vs := its) (by simpa using hl.isList) (each_zip (R := fun _ _ => True) ld rv) (each_reads ld rs (by omega)) (by rw [zip_snd ld]; exact al) (by rw [zip_snd ld]; exact so) (by rw [lz]; exact hz) (fun b hb => ?_) fun out lo eo => ?_
  · have := dp b.2 (by
      rw [← zip_snd ld]
      exact List.mem_map_of_mem hb)
    omega
  · have pm : (((xs.zip ds).mergeSort (PySem.W.dataLe false Prod.snd)).map Prod.fst).Perm xs := by
      have := (List.mergeSort_perm (xs.zip ds) (PySem.W.dataLe false Prod.snd)).map Prod.fst
      rwa [zip_fst ld] at this
    obtain ⟨ep, he'⟩ := PyProof.Rows.sortedAll_at s.heap its (List.toArray out)
    have vo := vals_of_each eo
    refine ⟨.ref _, upd H (s.heap.objs.size + 1) (.lst _), I.laid (t' := s.toks) (fun _ _ => PyProof.Rows.sortedAll_old) (Nat.le_succ _) ⟨by rw [pm.length_eq]; exact hz, out, ep, vo, by simpa using he'⟩, rfl, q _ _ pm (I.hok.fresh (Nat.le_succ _))⟩
end
end Fb

/-! Part HM4: the greedy tree, a way exchanged, what is cheapest (mathematics). -/
namespace Fb
structure Tree (rows cols : List Nat) (s : Nd → Int) (t : List (Wy × Int)) : Prop where
  feas : Feas (plc rows cols) s t
  pos : ∀ p ∈ t, 0 < p.2
  nd : (t.map (·.1)).Nodup
  len : t.length + 1 = (plc rows cols).length
/-! the greedy tree -/
def npos (V : List Nd) (s : Nd → Int) : Int := vsum V fun v => if 0 < s v then 1 else 0
structure Gr (V : List Nd) (s r : Nd → Int) (t : List (Wy × Int)) : Prop where
  ends : Ends V t
  bal : ∀ v ∈ V, bal t v + r v = s v
  nn : ∀ v ∈ V, 0 ≤ r v
  tot : vsum V (fun v => v.ep * r v) = 0
  pos : ∀ p ∈ t, 0 < p.2
  cnt : ((∀ v ∈ V, r v = 0) ∧ t.length + 1 ≤ V.length) ∨ ((∃ v ∈ V, 0 < r v) ∧ (t.length : Int) + npos V r ≤ V.length)
theorem npos_le (V : List Nd) (s : Nd → Int) : npos V s ≤ V.length := by
  have : npos V s ≤ vsum V fun _ => 1 := vsum_le fun v _ => by split <;> omega
  have e : vsum V (fun _ => (1 : Int)) = V.length := by
    have := vsum_ones V fun _ => true
    rw [show V.filter (fun _ => true) = V from List.filter_eq_self.mpr fun _ _ => rfl] at this
    rw [← this]
    rfl
  omega
theorem Gr.nil {V : List Nd} {s : Nd → Int} (ne : V ≠ []) (pos : ∀ v ∈ V, 0 < s v) (tot : vsum V (fun v => v.ep * s v) = 0) : Gr V s s [] := by
  refine ⟨(fun p hp => by cases hp), (fun v _ => by show 0 + s v = s v; omega), fun v hv => Int.le_of_lt (pos v hv), tot, (fun p hp => by cases hp), .inr ⟨?_, ?_⟩⟩
  · obtain ⟨v, hv⟩ := List.exists_mem_of_ne_nil V ne
    exact ⟨v, hv, pos v hv⟩
  · have := npos_le V s
    show ((0 : Nat) : Int) + _ ≤ _
    omega
theorem Gr.step {V : List Nd} {s r : Nd → Int} {t : List (Wy × Int)} (nd : V.Nodup) (g : Gr V s r t) {w : Wy} {m : Int} (hr : Nd.row w.1 ∈ V) (hc : Nd.col w.2 ∈ V) (m0 : 0 < m) (mr : m ≤ r (.row w.1)) (mc : m ≤ r (.col w.2)) (one : m = r (.row w.1) ∨ m = r (.col w.2)) :
    Gr V s (fun v => if v.on w = true then r v - m else r v) (t ++ [(w, m)]) := by
  have onr : (Nd.row w.1).on w = true := decide_eq_true rfl
  have onc : (Nd.col w.2).on w = true := decide_eq_true rfl
  have le : ∀ v, v.on w = true → m ≤ r v := fun v h => by
    rcases on_is h with ⟨e, _⟩ | ⟨e, _⟩ <;> rw [e] <;> assumption
  have big : ∃ v ∈ V, 0 < r v := ⟨_, hr, by omega⟩
  have cnt0 : (t.length : Int) + npos V r ≤ V.length := by
    rcases g.cnt with ⟨z, _⟩ | ⟨_, c⟩
    · have := z _ hr
      omega
    · exact c
  have dif : npos V r - npos V (fun v => if v.on w = true then r v - m else r v) = (if r (.row w.1) = m then 1 else 0) + (if r (.col w.2) = m then 1 else 0) := by
    rw [← on_sum nd hr hc fun v => if r v = m then (1 : Int) else 0]
    have : npos V (fun v => if v.on w = true then r v - m else r v) = npos V r + -1 * vsum V (fun v => if v.on w = true then (if r v = m then (1 : Int) else 0) else 0) := by
      unfold npos
      rw [← vsum_mul, ← vsum_add]
      refine vsum_congr fun v hv => ?_
      by_cases c : v.on w = true
      · have := le v c
        simp only [if_pos c]
        by_cases d : r v = m
        · rw [if_pos d, if_neg (by omega), if_pos (by omega)]; rfl
        · rw [if_neg d, if_pos (by omega), if_pos (by omega)]; rfl
      · simp only [if_neg c]
        omega
    rw [this]
    omega
  refine ⟨fun p hp => ?_, fun v hv => ?_, fun v hv => ?_, ?_, fun p hp => ?_, ?_⟩
  · rcases List.mem_append.mp hp with hp | hp
    · exact g.ends p hp
    · rw [List.mem_singleton] at hp
      subst hp
      exact ⟨hr, hc⟩
  · have b := g.bal v hv
    rw [bal_app, bal_cons]
    show _ + (_ + 0) + (if v.on w = true then r v - m else r v) = s v
    by_cases c : v.on w = true
    · rw [if_pos c, if_pos c]; show _ + (m + 0) + _ = _; omega
    · rw [if_neg c, if_neg c]; omega
  · have n := g.nn v hv
    by_cases c : v.on w = true
    · have := le v c
      simp only [if_pos c]
      omega
    · simp only [if_neg c]
      exact n
  · have e : vsum V (fun v => v.ep * (if v.on w = true then r v - m else r v)) = vsum V (fun v => v.ep * r v + (if v.on w = true then -m * v.ep else 0)) := vsum_congr fun v _ => by
      by_cases c : v.on w = true
      · rw [if_pos c, if_pos c, Int.mul_sub, Int.neg_mul, Int.mul_comm m]; omega
      · rw [if_neg c, if_neg c]; omega
    rw [e, vsum_add, g.tot, on_sum nd hr hc fun v => -m * v.ep]
    show 0 + (-m * 1 + -m * -1) = 0
    rw [Int.mul_neg]
    omega
  · rcases List.mem_append.mp hp with hp | hp
    · exact g.pos p hp
    · rw [List.mem_singleton] at hp
      subst hp
      exact m0
  · have d1 : (1 : Int) ≤ (if r (.row w.1) = m then 1 else 0) + (if r (.col w.2) = m then 1 else 0) := by
      rcases one with e | e
      · rw [if_pos e.symm]; split <;> omega
      · rw [if_pos e.symm]; split <;> omega
    rw [List.length_append, List.length_singleton]
    by_cases z : ∀ v ∈ V, (if v.on w = true then r v - m else r v) = 0
    · refine .inl ⟨z, ?_⟩
      have zr := z _ hr
      have zc := z _ hc
      simp only [if_pos onr] at zr
      simp only [if_pos onc] at zc
      rw [if_pos (by omega), if_pos (by omega)] at dif
      have n0 : 0 ≤ npos V (fun v => if v.on w = true then r v - m else r v) := vsum_pos fun v _ => by split <;> omega
      omega
    · refine .inr ⟨?_, by omega⟩
      apply Classical.byContradiction
      intro no
      refine z fun v hv => ?_
      have n1 : ¬ 0 < (if v.on w = true then r v - m else r v) := fun h => no ⟨v, hv, h⟩
      have := g.nn v hv
      by_cases c : v.on w = true
      · have := le v c
        rw [if_pos c] at n1 ⊢
        omega
      · rw [if_neg c] at n1 ⊢
        omega
theorem Gr.done {rows cols : List Nat} {s r : Nd → Int} {t : List (Wy × Int)} (g : Gr (plc rows cols) s r t) (z : ∀ a ∈ rows, ∀ b ∈ cols, r (.row a) = 0 ∨ r (.col b) = 0) : Feas (plc rows cols) s t ∧ t.length + 1 ≤ (plc rows cols).length := by
  have rn : ∀ a ∈ rows, 0 ≤ r (.row a) := fun a h => g.nn _ (row_plc.mpr h)
  have cn : ∀ a ∈ cols, 0 ≤ r (.col a) := fun a h => g.nn _ (col_plc.mpr h)
  have tt := g.tot
  rw [vsum_plc] at tt
  have e1 : vsum rows (fun a => (Nd.row a).ep * r (.row a)) = vsum rows fun a => r (.row a) := vsum_congr fun a _ => Int.one_mul _
  have e2 : vsum cols (fun a => (Nd.col a).ep * r (.col a)) = -1 * vsum cols fun a => r (.col a) := by
    rw [← vsum_mul]
    rfl
  rw [e1, e2] at tt
  have all : ∀ v ∈ plc rows cols, r v = 0 := by
    by_cases c : ∃ a ∈ rows, r (.row a) ≠ 0
    · obtain ⟨a, ha, na⟩ := c
      have zc : ∀ b ∈ cols, r (.col b) = 0 := fun b hb => (z a ha b hb).resolve_left na
      rw [vsum_zero zc] at tt
      exact absurd (vsum_none rn (by omega) a ha) na
    · have zr : ∀ a ∈ rows, r (.row a) = 0 := fun a ha => Classical.byContradiction fun h => c ⟨a, ha, h⟩
      rw [vsum_zero zr] at tt
      have zc := vsum_none cn (by omega)
      intro v hv
      cases v with
      | row a => exact zr a (row_plc.mp hv)
      | col a => exact zc a (col_plc.mp hv)
  refine ⟨⟨g.ends, fun v hv => ?_⟩, ?_⟩
  · have := g.bal v hv
    rw [all v hv] at this
    omega
  · rcases g.cnt with ⟨_, c⟩ | ⟨⟨v, hv, c⟩, _⟩
    · exact c
    · rw [all v hv] at c
      omega
/-! a way exchanged -/
def shift (t : List (Wy × Int)) (L : List Wy) (k : Int) : List (Wy × Int) := t.map fun p => (p.1, if p.1 ∈ L then p.2 + k else p.2)
theorem shift_keys (t : List (Wy × Int)) (L : List Wy) (k : Int) : (shift t L k).map (·.1) = t.map (·.1) := by
  unfold shift
  rw [List.map_map]
  rfl
theorem shift_bal {t : List (Wy × Int)} {L : List Wy} (nd : (t.map (·.1)).Nodup) (nl : L.Nodup) (sub : ∀ w ∈ L, w ∈ t.map (·.1)) (k : Int) (x : Nd) : bal (shift t L k) x = bal t x + vsum L fun w => if x.on w = true then k else 0 := by
  have pm : L.Perm ((t.map (·.1)).filter fun w => decide (w ∈ L)) := (List.perm_ext_iff_of_nodup nl (nd.filter _)).mpr fun w => by
    rw [List.mem_filter]
    exact ⟨fun h => ⟨sub w h, decide_eq_true h⟩, fun h => of_decide_eq_true h.2⟩
  rw [vsum_perm pm]
  clear pm nl sub nd
  induction t with
  | nil => rfl
  | cons p t ih =>
    show bal ((p.1, if p.1 ∈ L then p.2 + k else p.2) :: shift t L k) x = _
    rw [bal_cons, bal_cons, ih, List.map_cons]
    show (if x.on p.1 = true then (if p.1 ∈ L then p.2 + k else p.2) else 0) + _ = _
    by_cases c : p.1 ∈ L
    · rw [if_pos c, List.filter_cons_of_pos (by simpa using c), vsum_cons]
      by_cases d : x.on p.1 = true
      · rw [if_pos d, if_pos d, if_pos d]; omega
      · rw [if_neg d, if_neg d, if_neg d]; omega
    · rw [if_neg c, List.filter_cons_of_neg (by simpa using c)]
      omega
theorem alt_ev : ∀ (l : List Wy) (k : Int) (x : Nd), bal (alt k l) x = (vsum (evensL l) fun w => if x.on w = true then -k else 0) + (vsum (evensL (l.drop 1)) fun w => if x.on w = true then k else 0)
  | [], k, x => rfl
  | [a], k, x => by
    show (if x.on a = true then -k else 0) + 0 = ((if x.on a = true then -k else 0) + 0) + 0
    omega
  | a :: b :: l, k, x => by
    have ih := alt_ev l k x
    show bal ((a, -k) :: (b, - -k) :: alt (- -k) l) x = _
    rw [Int.neg_neg, bal_cons, bal_cons, ih]
    have e : evensL ((a :: b :: l).drop 1) = b :: evensL (l.drop 1) := by
      cases l with
      | nil => rfl
      | cons y l => rfl
    rw [e]
    show (if x.on a = true then -k else 0) + ((if x.on b = true then k else 0) + (_ + _)) = ((if x.on a = true then -k else 0) + vsum (evensL l) fun w => if x.on w = true then -k else 0) + ((if x.on b = true then k else 0) + vsum (evensL (l.drop 1)) fun w => if x.on w = true then k else 0)
    omega
theorem ev_perm {α : Type} : ∀ l : List α, l.Perm (evensL l ++ evensL (l.drop 1))
  | [] => .nil
  | [a] => List.Perm.refl _
  | a :: b :: l => by
    have ih := ev_perm l
    have e : evensL ((a :: b :: l).drop 1) = b :: evensL (l.drop 1) := by
      cases l with
      | nil => rfl
      | cons y l => rfl
    rw [e]
    show (a :: b :: l).Perm (a :: (evensL l ++ b :: evensL (l.drop 1)))
    exact .cons _ ((List.Perm.cons b ih).trans List.perm_middle.symm)
theorem tsum_app (t u : List (Wy × Int)) (f : Wy → Int) : tsum (t ++ u) f = tsum t f + tsum u f := vsum_app _ _ _
theorem bal_drop {t : List (Wy × Int)} {g : Wy} (z : ∀ p ∈ t, p.1 = g → p.2 = 0) (x : Nd) : bal (t.filter fun p => decide (p.1 ≠ g)) x = bal t x := by
  induction t with
  | nil => rfl
  | cons p t ih =>
    have ih := ih fun q hq => z q (List.mem_cons_of_mem _ hq)
    by_cases c : p.1 = g
    · rw [List.filter_cons_of_neg (by simpa using c), ih, bal_cons, z p List.mem_cons_self c]
      split <;> omega
    · rw [List.filter_cons_of_pos (by simpa using c), bal_cons, bal_cons, ih]
/-- what a tree costs, by its prices -/
theorem cost_by {V : List Nd} {s : Nd → Int} {t : List (Wy × Int)} (nd : V.Nodup) (f : Feas V s t) (y : Nd → Int) : tsum t (fun w => y (.row w.1) - y (.col w.2)) = vsum V fun v => v.ep * y v * s v := by
  have e := by_ways nd (fun v => v.ep * y v) f.1
  have e2 : vsum V (fun v => v.ep * y v * s v) = vsum V (fun v => v.ep * y v * bal t v) := vsum_congr fun v hv => by rw [f.2 v hv]
  rw [e2, e]
  refine vsum_congr fun p _ => ?_
  show (y (.row p.1.1) - y (.col p.1.2)) * p.2 = (1 * y (.row p.1.1) + -1 * y (.col p.1.2)) * p.2
  congr 1
  omega
section
variable {rows cols : List Nat} {s : Nd → Int} {t : List (Wy × Int)} {root : Nat} {h : Hg} {cost : Wy → Int}
theorem exchanged (nr : rows.Nodup) (nc : cols.Nodup) (n : Nondeg (plc rows cols) s) (T : Tree rows cols s t) (ht : HT root h) (pm : (t.map (·.1)).Perm (wys h)) {r c : Nat} (hr : r ∈ rows) (hc : c ∈ cols) (ir : Nd.row r ∈ nds root h) (ic : Nd.col c ∈ nds root h)
    (neg : cost (r, c) - pr cost h (.row r) + pr cost h (.col c) < 0) {up down sf : List Wy} (e1 : pth h (.row r) = up ++ sf) (e2 : pth h (.col c) = down ++ sf) (st : ∀ w, up.getLast? = some w → down.getLast? ≠ some w) {m : Int} {gone : Wy}
    (gin : gone ∈ evensL up ++ evensL down) (gm : (gone, m) ∈ t) (least : ∀ p ∈ t, p.1 ∈ evensL up ++ evensL down → m ≤ p.2) :
    let t1 := shift (shift t (evensL up ++ evensL down) (-m)) (evensL (up.drop 1) ++ evensL (down.drop 1)) m
    let t2 := (t1.filter fun p => decide (p.1 ≠ gone)) ++ [((r, c), m)]
    Tree rows cols s t2 ∧ tsum t2 cost < tsum t cost ∧ (r, c) ∉ t.map (·.1) := by
  intro t1 t2
  have vnd := plc_nodup nr nc
  have wn : (r, c) ∉ t.map (·.1) := fun hm => by
    have := ht.tight (cost := cost) _ (pm.mem_iff.mp hm)
    have : pr cost h (.row r) - pr cost h (.col c) = cost (r, c) := this
    omega
  have apart := ring_apart ht e1 e2 st
  have nu : up.Nodup := (List.nodup_append.mp (e1 ▸ ht.pnodup (.row r))).1
  have nd : down.Nodup := (List.nodup_append.mp (e2 ▸ ht.pnodup (.col c))).1
  have nall : (up ++ down).Nodup := List.nodup_append.mpr ⟨nu, nd, fun a ha b hb e => apart a ha (e ▸ hb)⟩
  have pall : (up ++ down).Perm ((evensL up ++ evensL down) ++ (evensL (up.drop 1) ++ evensL (down.drop 1))) := by
    refine ((ev_perm up).append (ev_perm down)).trans ?_
    rw [List.append_assoc, List.append_assoc]
    refine List.Perm.append_left _ ?_
    rw [← List.append_assoc, ← List.append_assoc]
    exact List.Perm.append_right _ List.perm_append_comm
  have nGT := pall.nodup_iff.mp nall
  obtain ⟨nG, nT, dGT⟩ := List.nodup_append.mp nGT
  have inW : ∀ w ∈ up ++ down, w ∈ t.map (·.1) := fun w hw => by
    refine pm.mem_iff.mpr ?_
    rcases List.mem_append.mp hw with hw | hw
    · exact pth_sub (v := .row r) (by rw [e1]; exact List.mem_append_left _ hw)
    · exact pth_sub (v := .col c) (by rw [e2]; exact List.mem_append_left _ hw)
  have inG : ∀ w ∈ evensL up ++ evensL down, w ∈ t.map (·.1) := fun w hw => inW w (pall.mem_iff.mpr (List.mem_append_left _ hw))
  have inT : ∀ w ∈ evensL (up.drop 1) ++ evensL (down.drop 1), w ∈ t.map (·.1) := fun w hw => inW w (pall.mem_iff.mpr (List.mem_append_right _ hw))
  have k1 : (shift t (evensL up ++ evensL down) (-m)).map (·.1) = t.map (·.1) := shift_keys _ _ _
  have k2 : t1.map (·.1) = t.map (·.1) := (shift_keys _ _ _).trans k1
  have m0 : 0 < m := T.pos _ gm
  have uniq : ∀ {w : Wy} {a b : Int}, (w, a) ∈ t → (w, b) ∈ t → a = b := fun {w a b} ha hb => by
    obtain ⟨i, hi⟩ := List.getElem?_of_mem ha
    obtain ⟨j, hj⟩ := List.getElem?_of_mem hb
    have hi' : (t.map (·.1))[i]? = some w := by rw [List.getElem?_map, hi]; rfl
    have hj' : (t.map (·.1))[j]? = some w := by rw [List.getElem?_map, hj]; rfl
    have := (List.getElem?_inj (List.getElem?_eq_some_iff.mp hi').1 T.nd).mp (hi'.trans hj'.symm)
    subst this
    rw [hi] at hj
    cases hj
    rfl
  -- what stands in t1
  have in1 : ∀ p ∈ t1, ∃ a, (p.1, a) ∈ t ∧ ((p.1 ∈ evensL up ++ evensL down ∧ p.2 = a - m) ∨ (p.1 ∉ evensL up ++ evensL down ∧ (p.2 = a + m ∨ p.2 = a))) := fun p hp => by
    obtain ⟨q, hq, rfl⟩ := List.mem_map.mp hp
    obtain ⟨o, ho, rfl⟩ := List.mem_map.mp hq
    refine ⟨o.2, ho, ?_⟩
    dsimp only
    by_cases cG : o.1 ∈ evensL up ++ evensL down
    · have cT : o.1 ∉ evensL (up.drop 1) ++ evensL (down.drop 1) := fun z => dGT _ cG _ z rfl
      rw [if_pos cG, if_neg cT]
      exact .inl ⟨cG, by omega⟩
    · rw [if_neg cG]
      refine .inr ⟨cG, ?_⟩
      by_cases cT : o.1 ∈ evensL (up.drop 1) ++ evensL (down.drop 1)
      · rw [if_pos cT]; exact .inl rfl
      · rw [if_neg cT]; exact .inr rfl
  have nn1 : ∀ p ∈ t1, 0 ≤ p.2 := fun p hp => by
    obtain ⟨a, ha, ⟨g, e⟩ | ⟨_, e | e⟩⟩ := in1 p hp
    · have := least _ ha g
      have : m ≤ a := this
      omega
    · have := T.pos _ ha
      have : 0 < a := this
      omega
    · have := T.pos _ ha
      have : 0 < a := this
      omega
  have zg : ∀ p ∈ t1, p.1 = gone → p.2 = 0 := fun p hp e => by
    obtain ⟨a, ha, ⟨g, e'⟩ | ⟨g, _⟩⟩ := in1 p hp
    · rw [e] at ha
      have := uniq ha gm
      omega
    · exact absurd (e ▸ gin) g
  have b2 : ∀ x, bal t2 x = bal t x := fun x => by
    show bal ((t1.filter fun p => decide (p.1 ≠ gone)) ++ [((r, c), m)]) x = _
    rw [bal_app, bal_drop zg x, shift_bal (k1 ▸ T.nd) nT (fun w hw => by rw [k1]; exact inT w hw), shift_bal T.nd nG inG, vsum_app, vsum_app, bal_cons]
    have rb := ring_bal ht ir ic e1 e2 m x
    rw [alt_ev, alt_ev] at rb
    show _ + ((if x.on (r, c) = true then m else 0) + 0) = _
    omega
  have en2 : Ends (plc rows cols) t2 := fun p hp => by
    rcases List.mem_append.mp hp with hp | hp
    · have hk : p.1 ∈ t.map (·.1) := by
        rw [← k2]
        exact List.mem_map_of_mem (List.mem_filter.mp hp).1
      obtain ⟨q, hq, e⟩ := List.mem_map.mp hk
      rw [← e]
      exact T.feas.1 q hq
    · rw [List.mem_singleton] at hp
      subst hp
      exact ⟨row_plc.mpr hr, col_plc.mpr hc⟩
  have f2 : Feas (plc rows cols) s t2 := ⟨en2, fun v hv => (b2 v).trans (T.feas.2 v hv)⟩
  have kf : (t1.filter fun p => decide (p.1 ≠ gone)).map (·.1) = (t.map (·.1)).filter fun w => decide (w ≠ gone) := by
    rw [← k2, List.filter_map]
    rfl
  have gk : gone ∈ t.map (·.1) := inG _ gin
  have lf : (t1.filter fun p => decide (p.1 ≠ gone)).length + 1 = t.length := by
    have e : (t1.filter fun p => decide (p.1 ≠ gone)).length = ((t.map (·.1)).filter fun w => decide (w ≠ gone)).length := by rw [← kf, List.length_map]
    have e2 : ((t.map (·.1)).filter fun w => decide (w ≠ gone)) = (t.map (·.1)).erase gone := by
      rw [T.nd.erase_eq_filter]
      refine List.filter_congr fun w _ => ?_
      by_cases z : w = gone <;> simp [z]
    have lp := List.length_pos_of_mem gk
    rw [e, e2, List.length_erase_of_mem gk, List.length_map]
    rw [List.length_map] at lp
    omega
  have l2 : t2.length = t.length := by
    show ((t1.filter fun p => decide (p.1 ≠ gone)) ++ [((r, c), m)]).length = _
    rw [List.length_append, List.length_singleton]
    exact lf
  have ne : plc rows cols ≠ [] := fun z => by
    have : Nd.row r ∈ plc rows cols := row_plc.mpr hr
    rw [z] at this
    cases this
  have nn2 : ∀ p ∈ t2, 0 ≤ p.2 := fun p hp => by
    rcases List.mem_append.mp hp with hp | hp
    · exact nn1 p (List.mem_filter.mp hp).1
    · rw [List.mem_singleton] at hp
      subst hp
      exact Int.le_of_lt m0
  refine ⟨⟨f2, strict vnd ne n f2 nn2 (by rw [l2, T.len]; exact Nat.le_refl _), ?_, by rw [l2]; exact T.len⟩, ?_, wn⟩
  · show (((t1.filter fun p => decide (p.1 ≠ gone)) ++ [((r, c), m)]).map (·.1)).Nodup
    rw [List.map_append, kf]
    refine List.nodup_append.mpr ⟨T.nd.filter _, List.nodup_cons.mpr ⟨by simp, List.nodup_nil⟩, fun a ha b hb e => ?_⟩
    rw [show List.map (·.1) [((r, c), m)] = [(r, c)] from rfl, List.mem_singleton] at hb
    exact wn (hb ▸ e ▸ (List.mem_filter.mp ha).1)
  · have c1 : tsum t cost = vsum (plc rows cols) fun v => v.ep * pr cost h v * s v := by
      rw [← cost_by vnd T.feas (pr cost h)]
      refine vsum_congr fun p hp => ?_
      show cost p.1 * p.2 = (pr cost h (.row p.1.1) - pr cost h (.col p.1.2)) * p.2
      rw [ht.tight _ (pm.mem_iff.mp (List.mem_map_of_mem hp))]
    have c2 := cost_by vnd f2 (pr cost h)
    rw [← c2] at c1
    rw [c1]
    have sp : ∀ f : Wy → Int, tsum t2 f = tsum (t1.filter fun p => decide (p.1 ≠ gone)) f + f (r, c) * m := fun f => by
      show tsum ((t1.filter fun p => decide (p.1 ≠ gone)) ++ [((r, c), m)]) f = _
      rw [tsum_app]
      show _ + (f (r, c) * m + 0) = _
      omega
    rw [sp, sp]
    have e3 : tsum (t1.filter fun p => decide (p.1 ≠ gone)) cost = tsum (t1.filter fun p => decide (p.1 ≠ gone)) fun w => pr cost h (.row w.1) - pr cost h (.col w.2) := vsum_congr fun p hp => by
      have hk : p.1 ∈ t.map (·.1) := by
        rw [← k2]
        exact List.mem_map_of_mem (List.mem_filter.mp hp).1
      show cost p.1 * p.2 = (pr cost h (.row p.1.1) - pr cost h (.col p.1.2)) * p.2
      rw [ht.tight _ (pm.mem_iff.mp hk)]
    rw [e3]
    have : cost (r, c) * m < (pr cost h (.row r) - pr cost h (.col c)) * m := Int.mul_lt_mul_of_pos_right (by omega) m0
    show _ + cost (r, c) * m < _ + (pr cost h (.row r) - pr cost h (.col c)) * m
    omega
end
theorem tsum_nn {t : List (Wy × Int)} {f : Wy → Int} (h : ∀ p ∈ t, 0 < p.2) (k : ∀ p ∈ t, 0 ≤ f p.1) : 0 ≤ tsum t f := vsum_pos fun p hp => Int.mul_nonneg (k p hp) (Int.le_of_lt (h p hp))
end Fb

/-! Part HR2: a dict comprehension whose keys are tuples. -/
namespace Fb
open PySem PySem.Spec PyProof.Rows L2
/-- a key that is a tuple, put by a comprehension -/
theorem dictSetT {X : Cx} {pins : List (Addr × Obj)} {σ : L2.St} {H : Hp} {s : Shared} {E : Value → Shared → Prop} {D b : Addr} {kvs : List (List Key × V)} {k : List Key} {v : V} {r : Value} {Q : Unit → Shared → Prop} (hu : X.A.units + 1 < cLine) (I : Inv X pins σ H s) (hD : H D = some (.dT kvs))
    (hb : H b = some (.tup (k.map kV))) (hz : kvs.length < sizeLine) (rv : RelV v r) (h : ∀ s', Inv X pins σ (upd H D (.dT (putK kvs k v))) s' → Q () s') : wpAny (model X.prog X.w) X.A (dictSet D (.ref b) r) Q E s := by
  obtain ⟨z, hd, xs, rel, dd⟩ := dt_of I.hok hD
  have ln := length_putK kvs k v
  refine wpAny_dictSet_heap (hsz := by rw [← Paired.length rel]; exact z) (show X.A.units < cLine by omega) (key_of I.hok hb) dd fun h' dd' hs => h _ ?_
  obtain ⟨q, es, ep, hq, h2, h3, h4, _, h5⟩ := dd'
  exact d_write I (by rw [hD]; exact True.intro) hs ⟨q, hq⟩ ⟨by omega, hd, _, (rel.put k hb rv).keeps (fun c ys ec => (upd_ne (ne_of ec hD (fun z => nomatch z))).trans ec), q, es, ep, hq, h2, h3, h4, h5⟩
/-- {k: v for target in iter if ..}, the keys tuples -/
def tDcT (wi : TI) (g : TG) (tt : TT) (tk tv : TE) (vs : List Nat) : TE := fun σ H Q => wi σ H fun J H1 => ∀ D, H1 D = none → ∃ W : Nat → Nat → Hp → Prop, (∃ m, W 0 m (upd H1 D (.dT []))) ∧ ∀ i m H, W i m H →
  (J.stop i H ∧ Q (.ref D) H) ∨ (J.go i H ∧ ∃ Nx : Hp → Prop, (∀ H', Nx H' → ∃ m', m' < m ∧ W (i + 1) m' H') ∧ ∀ x H', J.yld i H x H' → g x (wipe σ vs) H' fun σ2 H2 => wipe σ2 vs = wipe σ vs ∧ tt σ2 H2 fun b H3 =>
    if b = true then tk σ2 H3 fun y H4 => tv σ2 H4 fun z H5 => ∃ kvs k q, y = .ref q ∧ H5 q = some (.tup (k.map kV)) ∧ H5 D = some (.dT kvs) ∧ kvs.length < sizeLine ∧ Nx (upd H5 D (.dT (putK kvs k z))) else Nx H3)
section
variable {X : Cx}
theorem dcT_core {pins : List (Addr × Obj)} {s : Shared} {σ : L2.St} {H : Hp} {Q : VK} {kx vx tg iter : Expr} {ifs : List Expr} {scope : Scope} {own : List (Str × Nat)} {pos pos' : Pos} {wi : TI} {g : TG} {tt : TT} {tk tv : TE} {use : Option (Value → Sem Unit)} {Qf : Value → Shared → Prop}
    (hu : X.A.units + 1 < cLine) (hc : X.calm = true) (hN : X.N.Nodup) (I : Inv X pins σ H s) (hi : PI X tg iter wi) (ok : BlkOk X.N X.env.scope scope own)
    (hg : ∀ (s : Shared) (H : Hp) (C : Addr) (cl : List (Str × Addr)) (fp : List Addr), PG (X.blk s H scope (compEnvC scope cl C X.env) fp) tg g) (ht : ∀ (s : Shared) (H : Hp) (C : Addr) (cl : List (Str × Addr)) (fp : List Addr), PTs (X.blk s H scope (compEnvC scope cl C X.env) fp) ifs tt)
    (hk : ∀ (s : Shared) (H : Hp) (C : Addr) (cl : List (Str × Addr)) (fp : List Addr), PE (X.blk s H scope (compEnvC scope cl C X.env) fp) kx tk)
    (he : ∀ (s : Shared) (H : Hp) (C : Addr) (cl : List (Str × Addr)) (fp : List Addr), PE (X.blk s H scope (compEnvC scope cl C X.env) fp) vx tv) (hsf : ∀ x, foldedSetIterable iter X.env x = pure x)
    (h : tDcT wi g tt tk tv (own.map (·.2)) σ H Q)
    (out : ∀ D C s' m H', Inv X pins σ H' s' → Q (.ref D) H' → s'.heap.Ns C m → FpOk X pins H' C → compPost (model X.prog X.w) X.A X.xe use Qf (.ref D) C (.ok .next) s') :
    wpAny (model X.prog X.w) X.A (comprehension (.DictComp kx vx [⟨tg, iter, ifs, 0⟩] scope pos) scope X.env pos' newDict false (eval iter X.env) use) Qf X.xe s := by
  have free : ∀ y ∈ scope.names, y.2 = .free → ∃ c, X.env.cells.lookup y.1 = some c := fun y hy e => (ok.free y hy e).elim (fun k => I.ok.has _ (.inl k)) fun k => I.ok.has _ (.inr k)
  refine wpAny_comprehension_free (use := use) rfl hsf (closure_ok free) ok.kind (fun y hy e => by rw [ok.uniq y hy, e]) (thn (hi.run pins s σ H _ I h) fun xv s1 hx => thn hx fun itv s2 h2 => ?_)
  obtain ⟨it, fp, tn, J, H2, e, I2, T, st2, f2, q⟩ := h2
  subst e
  refine wpAny_newObj_type (newEnv_comp ?_)
  obtain ⟨D, hD⟩ : ∃ D, D = s2.heap.objs.size := ⟨_, rfl⟩
  rw [← hD]
  have hDn : H2 D = none := I2.hok.fresh (Nat.le_of_eq hD.symm)
  obtain ⟨W0, ⟨m0, w0⟩, turn⟩ := q D hDn
  generalize hs3 : ({ s2 with heap := s2.heap.push { cls := .type "dict", data := .dict #[] } } : Shared) = s3
  have h3 : s3.heap = s2.heap.push { cls := .type "dict", data := .dict #[] } := by rw [← hs3]
  have I3 : Inv X pins σ (upd H2 D (.dT [])) s3 := by
    rw [← hs3]
    exact I2.laid (t' := s2.toks) (fun b o e => Heap.get?_push_of_some _ e) (Nat.le_of_eq hD.symm) (by rw [hD]; exact dt_empty s2.heap I2.big)
  have lt2 : ∀ b ∈ fp, b < s2.heap.objs.size := fun b hb => (T.obj _ _ st2 b hb).elim fun o e => Heap.lt_size e.1
  have f3 : ∀ b ∈ fp, FpOk X pins (upd H2 D (.dT [])) b ∧ b < s3.heap.objs.size := fun b hb =>
    ⟨⟨by rw [upd_ne (by rw [hD]; exact Nat.ne_of_lt (lt2 b hb))]; exact (f2 b hb).1, (f2 b hb).2⟩, by rw [h3, Heap.size_push]; exact Nat.lt_succ_of_lt (lt2 b hb)⟩
  have st3 : tn 0 s3.heap := T.keep _ _ _ st2 fun b _ o e => by rw [h3]; exact Heap.get?_push_of_some _ e
  have I4 := block_start I3 ok hN f3
  obtain ⟨cl, hcl⟩ : ∃ cl, cl = cellsFrom (s3.heap.objs.size + 1) scope.names (cloFrom X.env.cells scope.names []) := ⟨_, rfl⟩
  rw [← hcl] at I4
  show codeAny _ _ (.compStart (.DictComp kx vx [⟨tg, iter, ifs, 0⟩] scope pos) 0 (.ref it) (.ref D) (compEnvC scope (cellsFrom (s3.heap.objs.size + 1) scope.names (cloFrom X.env.cells scope.names [])) s3.heap.objs.size X.env)) (compPost (model X.prog X.w) X.A X.xe use Qf (.ref D) s3.heap.objs.size) { s3 with heap := pushCells (s3.heap.push { cls := .type "dict", data := .dict #[] }) scope.names }
  rw [← hcl]
  have pg := hg s3 (upd H2 D (.dT [])) s3.heap.objs.size cl fp
  have pt := ht s3 (upd H2 D (.dT [])) s3.heap.objs.size cl fp
  have pk := hk s3 (upd H2 D (.dT [])) s3.heap.objs.size cl fp
  have pe := he s3 (upd H2 D (.dT [])) s3.heap.objs.size cl fp
  have nfp : ∀ b ∈ fp, (upd H2 D (.dT [])) b = none := fun b hb => (f3 b hb).1.1
  generalize hce : compEnvC scope cl s3.heap.objs.size X.env = ce at I4 pg pt pk pe ⊢
  have cL : ce.locals = s3.heap.objs.size := by rw [← hce]; rfl
  generalize upd H2 D (.dT []) = H3 at I3 I4 pg pt pk pe w0 nfp f3
  generalize hs4 : ({ s3 with heap := pushCells (s3.heap.push { cls := .type "dict", data := .dict #[] }) scope.names } : Shared) = s4 at I4 ⊢
  have st4 : tn 0 s4.heap := T.keep _ _ _ st3 fun b _ o e => by rw [← hs4]; exact pushCells_keeps _ _ _ _ (Heap.get?_push_of_some _ e)
  have there : ∀ {σ' : L2.St} {H' : Hp} {s' : Shared}, Inv (X.blk s3 H3 scope ce fp) [] σ' H' s' → (∀ b ∈ fp, H' b = none) → ∀ b ∈ fp, FpOk (X.blk s3 H3 scope ce fp) [] H' b := fun {σ' H' s'} I' hn b hb =>
    ⟨hn b hb, (I'.ok.exf b hb).1, I'.ok.exfs b hb, .inl hb, fun x c e => (I'.ok.exf b hb).2 x c e, fun p hp => absurd (show p ∈ ([] : List (Addr × Obj)) ++ [] from hp) (by simp)⟩
  have loop : codeAny (model X.prog X.w) X.A (.compLoop (.DictComp kx vx [⟨tg, iter, ifs, 0⟩] scope pos) 0 (.ref it) (.ref D) ce) (compPost (model X.prog X.w) X.A X.xe use Qf (.ref D) s3.heap.objs.size) s4 := by
    refine compLoop_anyD (fun n s' => ∃ i H', Inv (X.blk s3 H3 scope ce fp) [] (wipe σ (own.map (·.2))) H' s' ∧ tn i s'.heap ∧ (∀ b ∈ fp, H' b = none) ∧ W0 i n H') ?_ m0 ⟨0, H3, I4, st4, nfp, w0⟩
    rintro n s5 ⟨i, H5, I5, st5, n5, w5⟩
    rcases turn i n H5 w5 with ⟨stop, qq⟩ | ⟨go, Nx, hNx, step⟩
    · refine thnF (T.done (X.blk s3 H3 scope ce fp) rfl rfl rfl hc i [] s5 _ H5 (fun _ _ => False) I5 (there I5 n5) st5 stop) fun r s6 ⟨hr, I6⟩ => ?_
      subst hr
      have I7 : Inv X pins σ H5 s6 := I3.call' (ch := fp) I6.os I6.base I6.hok I6.bare fun b hb => ⟨(f3 b hb).1.2.2.2.1, (f3 b hb).1.2.1, (f3 b hb).1.2.2.2.2.1, (f3 b hb).1.2.2.2.2.2⟩
      have nC : H5 ce.locals = none := I6.free
      obtain ⟨m, hn, _⟩ := I6.loc
      have hn : s6.heap.Ns ce.locals m := hn
      rw [cL] at hn nC
      exact out D _ s6 m H5 I7 qq hn (I3.fpOk (Nat.le_refl _) nC)
    · refine thnF (T.item (X.blk s3 H3 scope ce fp) rfl rfl rfl hc i [] s5 _ H5 (fun _ _ => False) I5 (there I5 n5) st5 go) fun r s6 ⟨u, hr, h6⟩ => ?_
      subst hr
      refine thnF h6 fun _ s7 ⟨x, H7, I7, r7, y7, st7, n7⟩ => ?_
      have I7' := I7.pinned (there I7 n7) (T.obj _ _ st7)
      refine thnF (pg.run _ s7 _ H7 x u _ I7' r7 (step x H7 y7)) fun _ s8 ⟨σ8, H8, I8, hw8, q8⟩ => ?_
      refine thnF (pt.run _ s8 σ8 H8 _ I8 q8) fun b s9 ⟨H9, I9, q9⟩ => ?_
      have fin : ∀ {s' : Shared} {H' : Hp}, Inv (X.blk s3 H3 scope ce fp) ([] ++ pinsAt fp s7.heap) σ8 H' s' → Nx H' → ∃ m, m < n ∧ ∃ i H', Inv (X.blk s3 H3 scope ce fp) [] (wipe σ (own.map (·.2))) H' s' ∧ tn i s'.heap ∧ (∀ b ∈ fp, H' b = none) ∧ W0 i m H' := fun {s' H'} I' nx => by
        obtain ⟨m', hm, w'⟩ := hNx H' nx
        have pin : ∀ b ∈ fp, ∀ o, s7.heap.get? b = some o → s'.heap.get? b = some o ∧ H' b = none := fun b hb o e =>
          ⟨(I'.pin (b, o) (List.mem_append_right _ (List.mem_append_right _ (mem_pinsAt hb e)))).1, (I'.pin (b, o) (List.mem_append_right _ (List.mem_append_right _ (mem_pinsAt hb e)))).2.1⟩
        refine ⟨m', hm, i + 1, H', (I'.unpinned (pins := [])).weak (by rw [← hw8, wipe_length]) (fun j v e => ?_), T.keep _ _ _ st7 fun b hb o e => (pin b hb o e).1, fun b hb => ?_, w'⟩
        · rw [← hw8] at e
          exact (wipe_some e).1
        · obtain ⟨o, e, _⟩ := T.obj _ _ st7 b hb
          exact (pin b hb o e).2
      cases b with
      | false =>
        simp only [Bool.false_eq_true, if_false] at q9 ⊢
        exact fin I9 q9
      | true =>
        simp only [if_true] at q9 ⊢
        refine thnF (pk.run _ s9 σ8 H9 _ I9 q9) fun z s10 ⟨yk, H10, I10, r10, q10⟩ => ?_
        refine thnF (pe.run _ s10 σ8 H10 _ I10 q10) fun z2 s11 ⟨yv, H11, I11, r11, kvs, k, qa, ek, hq11, hD11, hz11, nx⟩ => ?_
        subst ek
        cases (show z = Value.ref qa from r10)
        exact dictSetT (X := X.blk s3 H3 scope ce fp) hu I11 hD11 hq11 hz11 r11 fun s12 I12 => fin I12 nx
  exact codeAny_compStart_dict loop (T.self X.A 0 _ _ _ st4 loop)
theorem pe_dcT {kx vx tg iter : Expr} {ifs : List Expr} {scope : Scope} {own : List (Str × Nat)} {pos : Pos} {wi : TI} {g : TG} {tt : TT} {tk tv : TE} (hu : X.A.units + 1 < cLine) (hc : X.calm = true) (hN : X.N.Nodup) (hi : PI X tg iter wi) (ok : BlkOk X.N X.env.scope scope own)
    (hg : ∀ (s : Shared) (H : Hp) (C : Addr) (cl : List (Str × Addr)) (fp : List Addr), PG (X.blk s H scope (compEnvC scope cl C X.env) fp) tg g) (ht : ∀ (s : Shared) (H : Hp) (C : Addr) (cl : List (Str × Addr)) (fp : List Addr), PTs (X.blk s H scope (compEnvC scope cl C X.env) fp) ifs tt)
    (hk : ∀ (s : Shared) (H : Hp) (C : Addr) (cl : List (Str × Addr)) (fp : List Addr), PE (X.blk s H scope (compEnvC scope cl C X.env) fp) kx tk)
    (he : ∀ (s : Shared) (H : Hp) (C : Addr) (cl : List (Str × Addr)) (fp : List Addr), PE (X.blk s H scope (compEnvC scope cl C X.env) fp) vx tv) (hsf : ∀ x, foldedSetIterable iter X.env x = pure x := by intro _; rfl) :
    PE X (.DictComp kx vx [⟨tg, iter, ifs, 0⟩] scope pos) (tDcT wi g tt tk tv (own.map (·.2))) := by
  refine ⟨fun pins s σ H Q I h => ?_⟩
  rw [arm_eval_DictComp]
  refine dcT_core hu hc hN I hi ok hg ht hk he hsf h fun D C s' m H' I' q hn ⟨p0, p1, _, p3, p4, p5⟩ => ⟨m, hn, fun h'' sb => ?_⟩
  exact ⟨.ref D, H', I'.turned (t' := s'.toks) (fun b o hb e => (sb.2 b hb).trans e) p0 p1 p3 p4 p5, rfl, q⟩
/-- the store of a comprehension's dict, the name a local -/
theorem dc_store {i : Nat} {y : Str} {py : Pos} {pins : List (Addr × Obj)} {σ : L2.St} {D : L2.Ends} (hN : X.N.Nodup) (hy : X.N[i]? = some y) (hyl : X.env.scope.names.lookup y = some .local) {L C : Addr} {s' : Shared} {m : Str → Option Value} {H' : Hp} (I' : Inv X pins σ H' s') (q : gName i (.ref L) σ H' D.nx) (hn : s'.heap.Ns C m) (f : FpOk X pins H' C) :
    compPost (model X.prog X.w) X.A X.xe (some (assign (.Name y py) X.env)) (fun _ s' => SP X pins D .next s') (.ref L) C (.ok .next) s' := by
  show wpAny _ _ (assign (.Name y py) X.env (.ref L)) _ _ _
  refine wpAny_assign_Name (store_ok2 (v := V.ref L) I' hN hy (.inl hyl) rfl (fun s2 I2 ⟨a, sb, ha⟩ => ?_) (.inr hyl))
  obtain ⟨p0, p1, p2, p3, p4, p5⟩ := f
  have ne : C ≠ a := ha.elim (fun z => z ▸ p1) fun z e => p4 y a z e.symm
  exact ⟨m, hn.sameBut sb ne, fun h3 sb3 => ⟨_, H', I2.turned (t' := s2.toks) (fun b o hb e => (sb3.2 b hb).trans e) p0 p1 p3 p4 p5, q⟩⟩
/-- name = {..} on one line, the keys tuples -/
theorem ps_setDcT {i : Nat} {y : Str} {py : Pos} {kx vx tg iter : Expr} {ifs : List Expr} {scope : Scope} {own : List (Str × Nat)} {pos spos : Pos} {wi : TI} {g : TG} {tt : TT} {tk tv : TE} (hu : X.A.units + 1 < cLine) (hc : X.calm = true) (hN : X.N.Nodup) (hy : X.N[i]? = some y) (hyl : X.env.scope.names.lookup y = some .local)
    (hsw : swapsWith (.DictComp kx vx [⟨tg, iter, ifs, 0⟩] scope pos) (some (.Name y py)) spos.line X.env = pure true) (hi : PI X tg iter wi) (ok : BlkOk X.N X.env.scope scope own)
    (hg : ∀ (s : Shared) (H : Hp) (C : Addr) (cl : List (Str × Addr)) (fp : List Addr), PG (X.blk s H scope (compEnvC scope cl C X.env) fp) tg g) (ht : ∀ (s : Shared) (H : Hp) (C : Addr) (cl : List (Str × Addr)) (fp : List Addr), PTs (X.blk s H scope (compEnvC scope cl C X.env) fp) ifs tt)
    (hk : ∀ (s : Shared) (H : Hp) (C : Addr) (cl : List (Str × Addr)) (fp : List Addr), PE (X.blk s H scope (compEnvC scope cl C X.env) fp) kx tk)
    (he : ∀ (s : Shared) (H : Hp) (C : Addr) (cl : List (Str × Addr)) (fp : List Addr), PE (X.blk s H scope (compEnvC scope cl C X.env) fp) vx tv) (hsf : ∀ x, foldedSetIterable iter X.env x = pure x := by intro _; rfl) :
    PS X (.Assign [.Name y py] (.DictComp kx vx [⟨tg, iter, ifs, 0⟩] scope pos) spos) (tAsg (tDcT wi g tt tk tv (own.map (·.2))) (gName i)) := by
  refine ⟨fun pins s σ H D I h => ?_⟩
  rw [exec_Assign_Name_used _ _ _ _ hsw]
  refine wpAny_bind (wpAny_standAt (wpAny_bind ?_))
  have h : tDcT wi g tt tk tv (own.map (·.2)) σ H (fun x H1 => gName i x σ H1 D.nx) := h
  exact wpAny_bind (thn (dcT_core (use := some (assign (.Name y py) X.env)) (Qf := fun _ s' => SP X pins D .next s') hu hc hN I hi ok hg ht hk he hsf h fun L C s' m H' I' q hn f => dc_store hN hy hyl I' q hn f) fun _ s' hq => wpAny_pure (wpAny_pure hq))
/-- .., the keys numbers or texts -/
theorem ps_setDc {i : Nat} {y : Str} {py : Pos} {kx vx tg iter : Expr} {ifs : List Expr} {scope : Scope} {own : List (Str × Nat)} {pos spos : Pos} {wi : TI} {g : TG} {tt : TT} {tk tv : TE} (hc : X.calm = true) (hN : X.N.Nodup) (hy : X.N[i]? = some y) (hyl : X.env.scope.names.lookup y = some .local)
    (hsw : swapsWith (.DictComp kx vx [⟨tg, iter, ifs, 0⟩] scope pos) (some (.Name y py)) spos.line X.env = pure true) (hi : PI X tg iter wi) (ok : BlkOk X.N X.env.scope scope own)
    (hg : ∀ (s : Shared) (H : Hp) (C : Addr) (cl : List (Str × Addr)) (fp : List Addr), PG (X.blk s H scope (compEnvC scope cl C X.env) fp) tg g) (ht : ∀ (s : Shared) (H : Hp) (C : Addr) (cl : List (Str × Addr)) (fp : List Addr), PTs (X.blk s H scope (compEnvC scope cl C X.env) fp) ifs tt)
    (hk : ∀ (s : Shared) (H : Hp) (C : Addr) (cl : List (Str × Addr)) (fp : List Addr), PE (X.blk s H scope (compEnvC scope cl C X.env) fp) kx tk)
    (he : ∀ (s : Shared) (H : Hp) (C : Addr) (cl : List (Str × Addr)) (fp : List Addr), PE (X.blk s H scope (compEnvC scope cl C X.env) fp) vx tv) (hsf : ∀ x, foldedSetIterable iter X.env x = pure x := by intro _; rfl) :
    PS X (.Assign [.Name y py] (.DictComp kx vx [⟨tg, iter, ifs, 0⟩] scope pos) spos) (tAsg (tDc wi g tt tk tv (own.map (·.2))) (gName i)) := by
  refine ⟨fun pins s σ H D I h => ?_⟩
  rw [exec_Assign_Name_used _ _ _ _ hsw]
  refine wpAny_bind (wpAny_standAt (wpAny_bind ?_))
  have h : tDc wi g tt tk tv (own.map (·.2)) σ H (fun x H1 => gName i x σ H1 D.nx) := h
  exact wpAny_bind (thn (dc_core (use := some (assign (.Name y py) X.env)) (Qf := fun _ s' => SP X pins D .next s') hc hN I hi ok hg ht hk he hsf h fun L C s' m H' I' q hn f => dc_store hN hy hyl I' q hn f) fun _ s' hq => wpAny_pure (wpAny_pure hq))
theorem sw_trueD {kx vx : Expr} {gs : List Comprehension} {scope : Scope} {pos py : Pos} {y : Str} {l : Nat} {env : Env} (hk : env.scope.kind = .function) (hy : env.scope.names.lookup y = some .local) (hl : (py.line == pos.line) = true)
    (ha : (scope.names.any fun (n, k) => n == y && (k == .local || k == .cell)) = false) : swapsWith (.DictComp kx vx gs scope pos) (some (.Name y py)) l env = pure true := by
  have k1 : env.kindOf y = some .local := hy
  have k2 : env.blockKind = .function := by unfold Env.blockKind; rw [hk]; rfl
  unfold swapsWith
  simp only [k2, k1, ha, Expr.pos, hl]
  rfl
end
theorem dcT_it {J : It} {n : Nat} {G : Hp → Prop} {Y : Nat → Hp → V → Hp → Prop} (w : Walk J n G Y) {g : TG} {tt : TT} {tk tv : TE} {vs : List Nat} {σ : L2.St} {H1 : Hp} {D : Addr} {Qd : Hp → Prop} (Pv : Nat → Hp → Prop) (h0 : Pv 0 (upd H1 D (.dT []))) (hG : ∀ i H, i ≤ n → Pv i H → G H)
    (hs : ∀ i x H H', i < n → Pv i H → Y i H x H' → g x (wipe σ vs) H' fun σ2 H2 => wipe σ2 vs = wipe σ vs ∧ tt σ2 H2 fun b H3 =>
      if b = true then tk σ2 H3 fun y H4 => tv σ2 H4 fun z H5 => ∃ kvs k q, y = .ref q ∧ H5 q = some (.tup (k.map kV)) ∧ H5 D = some (.dT kvs) ∧ kvs.length < sizeLine ∧ Pv (i + 1) (upd H5 D (.dT (putK kvs k z))) else Pv (i + 1) H3) (hd : ∀ H, Pv n H → Qd H) :
    ∃ W : Nat → Nat → Hp → Prop, (∃ m, W 0 m (upd H1 D (.dT []))) ∧ ∀ i m H, W i m H →
      (J.stop i H ∧ Qd H) ∨ (J.go i H ∧ ∃ Nx : Hp → Prop, (∀ H', Nx H' → ∃ m', m' < m ∧ W (i + 1) m' H') ∧ ∀ x H', J.yld i H x H' → g x (wipe σ vs) H' fun σ2 H2 => wipe σ2 vs = wipe σ vs ∧ tt σ2 H2 fun b H3 =>
        if b = true then tk σ2 H3 fun y H4 => tv σ2 H4 fun z H5 => ∃ kvs k q, y = .ref q ∧ H5 q = some (.tup (k.map kV)) ∧ H5 D = some (.dT kvs) ∧ kvs.length < sizeLine ∧ Nx (upd H5 D (.dT (putK kvs k z))) else Nx H3) := by
  refine ⟨fun i m H => m = n - i ∧ i ≤ n ∧ Pv i H, ⟨n, by simp, Nat.zero_le _, h0⟩, ?_⟩
  rintro i m H ⟨rfl, hi, p⟩
  have q := hG i H hi p
  by_cases hlt : i < n
  · exact .inr ⟨w.goes i H hlt q, Pv (i + 1), fun H' p' => ⟨n - (i + 1), by omega, rfl, hlt, p'⟩, fun x H' y => hs i x H H' hlt p (w.yields i H x H' hlt q y)⟩
  · have e : i = n := by omega
    subst e
    exact .inl ⟨w.stops H q, hd H p⟩
theorem dcK_it {J : It} {n : Nat} {G : Hp → Prop} {Y : Nat → Hp → V → Hp → Prop} (w : Walk J n G Y) {g : TG} {tt : TT} {tk tv : TE} {vs : List Nat} {σ : L2.St} {H1 : Hp} {D : Addr} {Qd : Hp → Prop} (Pv : Nat → Hp → Prop) (h0 : Pv 0 (upd H1 D (.dK []))) (hG : ∀ i H, i ≤ n → Pv i H → G H)
    (hs : ∀ i x H H', i < n → Pv i H → Y i H x H' → g x (wipe σ vs) H' fun σ2 H2 => wipe σ2 vs = wipe σ vs ∧ tt σ2 H2 fun b H3 =>
      if b = true then tk σ2 H3 fun y H4 => tv σ2 H4 fun z H5 => ∃ kvs k, y = kV k ∧ H5 D = some (.dK kvs) ∧ kvs.length < sizeLine ∧ Pv (i + 1) (upd H5 D (.dK (putK kvs k z))) else Pv (i + 1) H3) (hd : ∀ H, Pv n H → Qd H) :
    ∃ W : Nat → Nat → Hp → Prop, (∃ m, W 0 m (upd H1 D (.dK []))) ∧ ∀ i m H, W i m H →
      (J.stop i H ∧ Qd H) ∨ (J.go i H ∧ ∃ Nx : Hp → Prop, (∀ H', Nx H' → ∃ m', m' < m ∧ W (i + 1) m' H') ∧ ∀ x H', J.yld i H x H' → g x (wipe σ vs) H' fun σ2 H2 => wipe σ2 vs = wipe σ vs ∧ tt σ2 H2 fun b H3 =>
        if b = true then tk σ2 H3 fun y H4 => tv σ2 H4 fun z H5 => ∃ kvs k, y = kV k ∧ H5 D = some (.dK kvs) ∧ kvs.length < sizeLine ∧ Nx (upd H5 D (.dK (putK kvs k z))) else Nx H3) := by
  refine ⟨fun i m H => m = n - i ∧ i ≤ n ∧ Pv i H, ⟨n, by simp, Nat.zero_le _, h0⟩, ?_⟩
  rintro i m H ⟨rfl, hi, p⟩
  have q := hG i H hi p
  by_cases hlt : i < n
  · exact .inr ⟨w.goes i H hlt q, Pv (i + 1), fun H' p' => ⟨n - (i + 1), by omega, rfl, hlt, p'⟩, fun x H' y => hs i x H H' hlt p (w.yields i H x H' hlt q y)⟩
  · have e : i = n := by omega
    subst e
    exact .inl ⟨w.stops H q, hd H p⟩
end Fb

/-! Part HD1: trees and costs as they lie in the heap; dicts by row, by column, by way. -/
namespace Fb
open PySem PySem.Spec PyProof.Rows L2
/-- lists and tuples stay -/
def LT (H H' : Hp) : Prop := ∀ b xs, (H b = some (.lst xs) → H' b = some (.lst xs)) ∧ (H b = some (.tup xs) → H' b = some (.tup xs))
theorem LT.refl (H : Hp) : LT H H := fun _ _ => ⟨id, id⟩
theorem LT.trans {H H1 H2 : Hp} (a : LT H H1) (b : LT H1 H2) : LT H H2 := fun c xs => ⟨fun h => (b c xs).1 ((a c xs).1 h), fun h => (b c xs).2 ((a c xs).2 h)⟩
theorem LT.of {H H' : Hp} (s : Same H H') : LT H H' := fun b xs => ⟨fun h => s _ _ h, fun h => s _ _ h⟩
theorem LT.put {H : Hp} {d : Addr} {o u : HO} (h : H d = some u) (hl : ∀ xs, u ≠ .lst xs) (ht : ∀ xs, u ≠ .tup xs) : LT H (upd H d o) := fun b xs => by
  constructor
  · intro e
    rw [upd_ne]
    · exact e
    · intro z
      rw [z, h] at e
      exact hl xs (Option.some.inj e)
  · intro e
    rw [upd_ne]
    · exact e
    · intro z
      rw [z, h] at e
      exact ht xs (Option.some.inj e)
theorem LT.dT {H : Hp} {d : Addr} {kvs : List (List Key × V)} {o : HO} (h : H d = some (.dT kvs)) : LT H (upd H d o) := .put h (fun _ => nofun) (fun _ => nofun)
theorem LT.dK {H : Hp} {d : Addr} {kvs : List (Key × V)} {o : HO} (h : H d = some (.dK kvs)) : LT H (upd H d o) := .put h (fun _ => nofun) (fun _ => nofun)
theorem LT.frz {H : Hp} {d : Addr} {u : HO} {od : Obj} {o : HO} (h : H d = some (.frz od u)) : LT H (upd H d o) := .put h (fun _ => nofun) (fun _ => nofun)
/-- a lock taken and given back -/
theorem lock_same {H H' : Hp} {d : Addr} {u o : HO} (h : H d = some u) (s : Same (upd H d o) H') : Same H (upd H' d u) := fun b x e => by
  by_cases c : b = d
  · subst c
    rw [upd_same]
    rw [h] at e
    exact e
  · rw [upd_ne c]
    exact s _ _ (by rw [upd_ne c]; exact e)
/-- a dict by numbers -/
def kd (l : List Nat) (f : Nat → V) : List (Key × V) := l.map fun (r : Nat) => (.inl (r : Int), f r)
def dk (l : List Nat) (f : Nat → Int) : List (Key × V) := kd l fun r => .int (f r)
def wk (w : Wy) : List Key := [.inl (w.1 : Int), .inl (w.2 : Int)]
def tk (t : List (Wy × Int)) : List (List Key × V) := t.map fun p => (wk p.1, .int p.2)
theorem inl_inj {a b : Nat} (h : (.inl (a : Int) : Key) = .inl (b : Int)) : a = b := by
  have : (a : Int) = (b : Int) := Sum.inl.inj h
  omega
theorem wk_inj {a b : Wy} (h : wk a = wk b) : a = b := by
  have h1 := List.cons.inj h
  have h2 := List.cons.inj h1.2
  exact Prod.ext (inl_inj h1.1) (inl_inj h2.1)
theorem kd_cons (x : Nat) (l : List Nat) (f : Nat → V) : kd (x :: l) f = (.inl (x : Int), f x) :: kd l f := rfl
theorem kd_val {f : Nat → V} {r : Nat} : ∀ {l : List Nat}, r ∈ l → valV (kd l f) (.inl (r : Int)) = some (f r)
  | x :: l, h => by
    rw [kd_cons]
    by_cases e : x = r
    · subst e
      exact valV_pos rfl
    · rw [valV_neg (fun z => e (inl_inj z))]
      exact kd_val ((List.mem_cons.mp h).resolve_left fun z => e z.symm)
theorem kd_no {f : Nat → V} {r : Nat} : ∀ {l : List Nat}, r ∉ l → valV (kd l f) (.inl (r : Int)) = none
  | [], _ => rfl
  | x :: l, h => by
    rw [kd_cons, valV_neg (fun z => h (by rw [inl_inj z]; exact List.mem_cons_self))]
    exact kd_no fun z => h (List.mem_cons_of_mem _ z)
theorem kd_put {f : Nat → V} {r : Nat} {v : V} {l : List Nat} (h : r ∈ l) : putK (kd l f) (.inl (r : Int)) v = kd l fun x => if x = r then v else f x := by
  unfold putK
  rw [if_pos (by rw [valV_any, kd_val h]; rfl)]
  unfold kd
  rw [List.map_map]
  refine List.map_congr_left fun x _ => ?_
  show (if ((.inl (x : Int) : Key)) = .inl (r : Int) then ((.inl (x : Int) : Key), v) else ((.inl (x : Int) : Key), f x)) = ((.inl (x : Int) : Key), if x = r then v else f x)
  by_cases e : x = r
  · subst e
    rw [if_pos rfl, if_pos rfl]
  · rw [if_neg (fun z => e (inl_inj z)), if_neg e]
theorem kd_new {f : Nat → V} {r : Nat} {v : V} {l : List Nat} (h : r ∉ l) : putK (kd l f) (.inl (r : Int)) v = kd (l ++ [r]) fun x => if x = r then v else f x := by
  rw [putK_new v (kd_no h)]
  unfold kd
  rw [List.map_append]
  congr 1
  · refine List.map_congr_left fun x hx => ?_
    show _ = ((.inl (x : Int) : Key), if x = r then v else f x)
    rw [if_neg (fun z : x = r => h (z ▸ hx))]
  · show _ = [((.inl (r : Int) : Key), if r = r then v else f r)]
    rw [if_pos rfl]
theorem kd_len (l : List Nat) (f : Nat → V) : (kd l f).length = l.length := List.length_map _
theorem kd_congr {l : List Nat} {f g : Nat → V} (h : ∀ r ∈ l, f r = g r) : kd l f = kd l g := List.map_congr_left fun r hr => by rw [h r hr]
theorem dk_val {f : Nat → Int} {r : Nat} {l : List Nat} (h : r ∈ l) : valV (dk l f) (.inl (r : Int)) = some (.int (f r)) := kd_val h
theorem dk_no {f : Nat → Int} {r : Nat} {l : List Nat} (h : r ∉ l) : valV (dk l f) (.inl (r : Int)) = none := kd_no h
theorem dk_put {f : Nat → Int} {r : Nat} {x : Int} {l : List Nat} (h : r ∈ l) : putK (dk l f) (.inl (r : Int)) (.int x) = dk l fun y => if y = r then x else f y := by
  unfold dk
  rw [kd_put h]
  refine kd_congr fun y _ => ?_
  show (if y = r then V.int x else V.int (f y)) = V.int (if y = r then x else f y)
  by_cases e : y = r
  · rw [if_pos e, if_pos e]
  · rw [if_neg e, if_neg e]
theorem dk_new {f : Nat → Int} {r : Nat} {x : Int} {l : List Nat} (h : r ∉ l) : putK (dk l f) (.inl (r : Int)) (.int x) = dk (l ++ [r]) fun y => if y = r then x else f y := by
  unfold dk
  rw [kd_new h]
  refine kd_congr fun y _ => ?_
  show (if y = r then V.int x else V.int (f y)) = V.int (if y = r then x else f y)
  by_cases e : y = r
  · rw [if_pos e, if_pos e]
  · rw [if_neg e, if_neg e]
theorem dk_len (l : List Nat) (f : Nat → Int) : (dk l f).length = l.length := kd_len _ _
theorem tk_len (t : List (Wy × Int)) : (tk t).length = t.length := List.length_map _
theorem tk_val {w : Wy} {a : Int} : ∀ {t : List (Wy × Int)}, (t.map (·.1)).Nodup → (w, a) ∈ t → valV (tk t) (wk w) = some (.int a)
  | p :: t, nd, h => by
    rw [List.map_cons, List.nodup_cons] at nd
    by_cases e : p.1 = w
    · have : p = (w, a) := by
        rcases List.mem_cons.mp h with z | z
        · exact z.symm
        · exact absurd (List.mem_map.mpr ⟨_, z, e.symm⟩) nd.1
      subst this
      exact valV_pos rfl
    · rw [show tk (p :: t) = (wk p.1, .int p.2) :: tk t from rfl, valV_neg (fun z => e (wk_inj z))]
      exact tk_val nd.2 ((List.mem_cons.mp h).resolve_left fun z => e (by rw [← z]))
theorem tk_no {w : Wy} : ∀ {t : List (Wy × Int)}, w ∉ t.map (·.1) → valV (tk t) (wk w) = none
  | [], _ => rfl
  | p :: t, h => by
    rw [show tk (p :: t) = (wk p.1, .int p.2) :: tk t from rfl, valV_neg (fun z => h (by rw [List.map_cons, wk_inj z]; exact List.mem_cons_self))]
    exact tk_no fun z => h (by rw [List.map_cons]; exact List.mem_cons_of_mem _ z)
theorem tk_new {w : Wy} {x : Int} {t : List (Wy × Int)} (h : w ∉ t.map (·.1)) : putK (tk t) (wk w) (.int x) = tk (t ++ [(w, x)]) := by
  rw [putK_new _ (tk_no h)]
  unfold tk
  rw [List.map_append]
  rfl
theorem tk_put {w : Wy} {a x : Int} {t : List (Wy × Int)} (nd : (t.map (·.1)).Nodup) (h : (w, a) ∈ t) : putK (tk t) (wk w) (.int x) = tk (t.map fun p => (p.1, if p.1 = w then x else p.2)) := by
  unfold putK
  rw [if_pos (by rw [valV_any, tk_val nd h]; rfl)]
  unfold tk
  rw [List.map_map, List.map_map]
  refine List.map_congr_left fun p _ => ?_
  show (if wk p.1 = wk w then _ else _) = (wk p.1, V.int (if p.1 = w then x else p.2))
  by_cases e : p.1 = w
  · rw [if_pos (by rw [e]), if_pos e]
  · rw [if_neg (fun z => e (wk_inj z)), if_neg e]
theorem tk_drop (w : Wy) (t : List (Wy × Int)) : dropK (tk t) (wk w) = tk (t.filter fun p => decide (p.1 ≠ w)) := by
  unfold dropK tk
  rw [List.filter_map]
  congr 1
  refine List.filter_congr fun p _ => ?_
  show decide (wk p.1 ≠ wk w) = _
  by_cases e : p.1 = w
  · rw [decide_eq_false (fun z => z (by rw [e])), decide_eq_false (fun z => z e)]
  · rw [decide_eq_true (show wk p.1 ≠ wk w from fun z => e (wk_inj z)), decide_eq_true (show p.1 ≠ w from e)]
/-- costs, row by row -/
def Costs (H : Hp) (cv : V) (M N : Nat) (C : Wy → Int) : Prop := ∃ a rows, cv = .ref a ∧ H a = some (.lst rows) ∧ rows.length = M ∧ ∀ i, i < M → ∃ ra, rows[i]? = some (.ref ra) ∧ H ra = some (.lst ((List.range N).map fun j => .int (C (i, j))))
theorem Costs.lt {H H' : Hp} {cv : V} {M N : Nat} {C : Wy → Int} (h : Costs H cv M N C) (l : LT H H') : Costs H' cv M N C := by
  obtain ⟨a, rows, e, h1, h2, h3⟩ := h
  exact ⟨a, rows, e, (l _ _).1 h1, h2, fun i hi => let ⟨ra, g1, g2⟩ := h3 i hi; ⟨ra, g1, (l _ _).1 g2⟩⟩
theorem Costs.mono {H H' : Hp} {cv : V} {M N : Nat} {C : Wy → Int} (h : Costs H cv M N C) (s : Same H H') : Costs H' cv M N C := h.lt (.of s)
/-- a way as a tuple -/
def IsWy (H : Hp) (v : V) (w : Wy) : Prop := ∃ q, v = .ref q ∧ H q = some (.tup [.int (w.1 : Nat), .int (w.2 : Nat)])
theorem IsWy.lt {H H' : Hp} {v : V} {w : Wy} (h : IsWy H v w) (l : LT H H') : IsWy H' v w := by
  obtain ⟨q, e, h1⟩ := h
  exact ⟨q, e, (l _ _).2 h1⟩
theorem wk_tup (w : Wy) : (wk w).map kV = [.int (w.1 : Nat), .int (w.2 : Nat)] := rfl
theorem range_at {N j : Nat} {C : Nat → V} (h : j < N) : atI ((List.range N).map C) (j : Int) = some (C j) := atI_nat (by rw [List.getElem?_map, List.getElem?_range h]; rfl)
end Fb

/-! Part HR3: sets of ints: comprehensions, and how many one has. -/
namespace Fb
open PySem PySem.Spec PyProof.Rows L2
def ISet (P : Program) (w : World) (h : Heap) (a : Addr) (S : Int → Bool) (n : Nat) : Prop := ∃ o, h.get? a = some o ∧ o.SetObjOf (PySem.intKind P w) S n
def ISetO (P : Program) (w : World) (a : Addr) (S : Int → Bool) (n : Nat) : HO := .ext fun h => ISet P w h a S n
theorem ISet.ok {P : Program} {w : World} {H : Hp} {h : Heap} {a : Addr} {S : Int → Bool} {n : Nat} (R : ISet P w h a S n) : ObjOk P w H h a (ISetO P w a S n) := by
  have ⟨o, ho, _⟩ := R
  refine ⟨R, ⟨o, ho⟩, fun h1 h2 p k => ?_⟩
  obtain ⟨o', ho', r⟩ := (show ISet P w h1 a S n from p)
  exact ⟨o', k o' ho', r⟩
theorem iset_new {P : Program} {w : World} {H : Hp} {h : Heap} : ObjOk P w H (h.push { cls := .type "set", dict := none, data := .set #[] 0 (.fresh 0 0 (!w.params.followText "set-order")) }) h.objs.size (ISetO P w h.objs.size (fun _ => false) 0) :=
  (show ISet _ _ _ _ _ _ from ⟨_, Heap.get?_push_size _ rfl, setObjOf_fresh _⟩).ok
section
variable {X : Cx} {pins : List (Addr × Obj)} {σ : L2.St} {H : Hp} {s : Shared}
theorem iset_put {A : Around} {E : Value → Shared → Prop} {D : Addr} {S : Int → Bool} {n : Nat} {k : Int} {tk : Tok} {Q : Value → Shared → Prop} (I : Inv X pins σ H s) (hD : H D = some (ISetO X.prog X.w D S n)) (few : n + 1 < scanBound)
    (q : ∀ s', Inv X pins σ (upd H D (ISetO X.prog X.w D (fun k' => S k' || decide (k' = k)) (if S k then n else n + 1))) s' → Q .none s') : wpAny (model X.prog X.w) A (call (.builtin "set.add") [.ref D, .int k tk]) Q E s := by
  obtain ⟨o, ho, hs⟩ := (show ISet X.prog X.w s.heap D S n from (I.hok D _ hD).1)
  refine call_set_add (knd := PySem.intKind X.prog X.w) (k := k) (by show Value.isInt k (Value.int k tk) = true; simp [Value.isInt]) rfl (hs.setOf ho (by omega)) few fun h' sb R => q _ ?_
  obtain ⟨o', ho', hs'⟩ := R.objOf
  exact I.write (e := D) (t' := s.toks + 1) (by rw [hD]; trivial) (.inl rfl) (fun c u hc hu => (sb.2 c hc).trans hu) ⟨o', ho'⟩ (show ISet _ _ _ _ _ _ from ⟨o', ho', hs'⟩).ok
end
section
variable {X : Cx}
/-- {elt for target in iter if ..}, elt an int -/
def tScI (P : Program) (w : World) (wi : TI) (g : TG) (tt : TT) (te : TE) (vs : List Nat) : TE := fun σ H Q => wi σ H fun J H1 => ∀ D, H1 D = none → ∃ W : Nat → Nat → Hp → Prop, (∃ m, W 0 m (upd H1 D (ISetO P w D (fun _ => false) 0))) ∧ ∀ i m H, W i m H →
  (J.stop i H ∧ Q (.ref D) H) ∨ (J.go i H ∧ ∃ Nx : Hp → Prop, (∀ H', Nx H' → ∃ m', m' < m ∧ W (i + 1) m' H') ∧ ∀ x H', J.yld i H x H' → g x (wipe σ vs) H' fun σ2 H2 => wipe σ2 vs = wipe σ vs ∧ tt σ2 H2 fun b H3 =>
    if b = true then te σ2 H3 fun y H4 => ∃ (k : Int) (S : Int → Bool) (n : Nat), y = .int k ∧ H4 D = some (ISetO P w D S n) ∧ n + 1 < scanBound ∧ Nx (upd H4 D (ISetO P w D (fun k' => S k' || decide (k' = k)) (if S k then n else n + 1))) else Nx H3)
theorem pe_scI {elt tg iter : Expr} {ifs : List Expr} {scope : Scope} {own : List (Str × Nat)} {pos : Pos} {wi : TI} {g : TG} {tt : TT} {te : TE} (hu : X.A.units + 1 < cLine) (hc : X.calm = true) (hN : X.N.Nodup) (hi : PI X tg iter wi) (ok : BlkOk X.N X.env.scope scope own)
    (hg : ∀ (s : Shared) (H : Hp) (C : Addr) (cl : List (Str × Addr)) (fp : List Addr), PG (X.blk s H scope (compEnvC scope cl C X.env) fp) tg g)
    (ht : ∀ (s : Shared) (H : Hp) (C : Addr) (cl : List (Str × Addr)) (fp : List Addr), PTs (X.blk s H scope (compEnvC scope cl C X.env) fp) ifs tt)
    (he : ∀ (s : Shared) (H : Hp) (C : Addr) (cl : List (Str × Addr)) (fp : List Addr), PE (X.blk s H scope (compEnvC scope cl C X.env) fp) elt te)
    (hs : ∀ x, foldedSetIterable iter X.env x = pure x := by intro _; rfl) : PE X (.SetComp elt [⟨tg, iter, ifs, 0⟩] scope pos) (tScI X.prog X.w wi g tt te (own.map (·.2))) := by
  refine ⟨fun pins s σ H Q I h => ?_⟩
  rw [PpSet.eval_SetComp]
  have free : ∀ y ∈ scope.names, y.2 = .free → ∃ c, X.env.cells.lookup y.1 = some c := fun y hy e => (ok.free y hy e).elim (fun k => I.ok.has _ (.inl k)) fun k => I.ok.has _ (.inr k)
  refine wpAny_comprehension_free (use := none) rfl hs (closure_ok free) ok.kind (fun y hy e => by rw [ok.uniq y hy, e]) (thn (hi.run pins s σ H _ I h) fun xv s1 hx => thn hx fun itv s2 h2 => ?_)
  obtain ⟨it, fp, tn, J, H2, rfl, I2, T, st2, f2, q⟩ := h2
  refine PpSet.newSet_ok (newEnv_comp ?_)
  have nD : H2 s2.heap.objs.size = none := I2.hok.fresh (Nat.le_refl _)
  obtain ⟨W, ⟨m0, w0⟩, turn⟩ := q _ nD
  have I3 : Inv X pins σ (upd H2 s2.heap.objs.size (ISetO X.prog X.w s2.heap.objs.size (fun _ => false) 0)) { s2 with heap := s2.heap.push { cls := .type "set", dict := none, data := .set #[] 0 (.fresh 0 0 (!X.w.params.followText "set-order")) } } :=
    I2.laid (t' := s2.toks) (fun b o e => Heap.get?_push_of_some _ e) (Nat.le_refl _) iset_new
  have small : ∀ b ∈ fp, b < s2.heap.objs.size := fun b hb => (T.obj _ _ st2 b hb).elim fun o e => Heap.lt_size e.1
  have size3 : (s2.heap.push { cls := .type "set", dict := none, data := .set #[] 0 (.fresh 0 0 (!X.w.params.followText "set-order")) }).objs.size = s2.heap.objs.size + 1 := Heap.size_push ..
  have st3 : tn 0 (s2.heap.push { cls := .type "set", dict := none, data := .set #[] 0 (.fresh 0 0 (!X.w.params.followText "set-order")) }) := T.keep _ _ _ st2 fun b _ o e => Heap.get?_push_of_some _ e
  generalize hD : s2.heap.objs.size = D at *
  generalize hs3 : ({ s2 with heap := s2.heap.push { cls := .type "set", dict := none, data := .set #[] 0 (.fresh 0 0 (!X.w.params.followText "set-order")) } } : Shared) = s3 at *
  have h3 : s3.heap = s2.heap.push { cls := .type "set", dict := none, data := .set #[] 0 (.fresh 0 0 (!X.w.params.followText "set-order")) } := by rw [← hs3]
  have f3 : ∀ b ∈ fp, FpOk X pins (upd H2 D (ISetO X.prog X.w D (fun _ => false) 0)) b ∧ b < s3.heap.objs.size := fun b hb => by
    have l := small b hb
    refine ⟨⟨?_, (f2 b hb).2⟩, by rw [h3, size3]; exact Nat.lt_succ_of_lt l⟩
    rw [upd_ne (Nat.ne_of_lt l)]
    exact (f2 b hb).1
  have I4 := block_start I3 ok hN f3
  have n0 : ∀ b ∈ fp, (upd H2 D (ISetO X.prog X.w D (fun _ => false) 0)) b = none := fun b hb => (f3 b hb).1.1
  generalize hH3 : upd H2 D (ISetO X.prog X.w D (fun _ => false) 0) = H3 at *
  have pg := hg s3 H3 s3.heap.objs.size (cellsFrom (s3.heap.objs.size + 1) scope.names (cloFrom X.env.cells scope.names [])) fp
  have pt := ht s3 H3 s3.heap.objs.size (cellsFrom (s3.heap.objs.size + 1) scope.names (cloFrom X.env.cells scope.names [])) fp
  have pe := he s3 H3 s3.heap.objs.size (cellsFrom (s3.heap.objs.size + 1) scope.names (cloFrom X.env.cells scope.names [])) fp
  have top : (compEnvC scope (cellsFrom (s3.heap.objs.size + 1) scope.names (cloFrom X.env.cells scope.names [])) s3.heap.objs.size X.env).locals = s3.heap.objs.size := rfl
  show codeAny _ _ (.compStart (.SetComp elt [⟨tg, iter, ifs, 0⟩] scope pos) 0 (.ref it) (.ref D) (compEnvC scope (cellsFrom (s3.heap.objs.size + 1) scope.names (cloFrom X.env.cells scope.names [])) s3.heap.objs.size X.env)) _ { s3 with heap := pushCells (s3.heap.push { cls := .type "dict", data := .dict #[] }) scope.names }
  generalize compEnvC scope (cellsFrom (s3.heap.objs.size + 1) scope.names (cloFrom X.env.cells scope.names [])) s3.heap.objs.size X.env = ce at I4 pg pt pe top ⊢
  have st4 : tn 0 ({ s3 with heap := pushCells (s3.heap.push { cls := .type "dict", data := .dict #[] }) scope.names } : Shared).heap := T.keep _ _ _ (h3 ▸ st3) fun b _ o e => pushCells_keeps _ _ _ _ (Heap.get?_push_of_some _ e)
  generalize ({ s3 with heap := pushCells (s3.heap.push { cls := .type "dict", data := .dict #[] }) scope.names } : Shared) = s4 at I4 st4 ⊢
  have fps : ∀ {σ' : L2.St} {H' : Hp} {s' : Shared}, Inv (X.blk s3 H3 scope ce fp) [] σ' H' s' → (∀ b ∈ fp, H' b = none) → ∀ b ∈ fp, FpOk (X.blk s3 H3 scope ce fp) [] H' b := fun {σ' H' s'} I' hn b hb =>
    ⟨hn b hb, (I'.ok.exf b hb).1, I'.ok.exfs b hb, .inl hb, fun x c e => (I'.ok.exf b hb).2 x c e, fun p hp => absurd (show p ∈ ([] : List (Addr × Obj)) ++ [] from hp) (by simp)⟩
  have loop : codeAny (model X.prog X.w) X.A (.compLoop (.SetComp elt [⟨tg, iter, ifs, 0⟩] scope pos) 0 (.ref it) (.ref D) ce) (compPost (model X.prog X.w) X.A X.xe none (EP X pins σ Q) (.ref D) s3.heap.objs.size) s4 := by
    refine PpSet.compLoopS_any (fun n s' => ∃ i H', Inv (X.blk s3 H3 scope ce fp) [] (wipe σ (own.map (·.2))) H' s' ∧ tn i s'.heap ∧ (∀ b ∈ fp, H' b = none) ∧ W i n H') ?_ m0 ⟨0, H3, I4, st4, n0, w0⟩
    rintro n s5 ⟨i, H5, I5, st5, n5, w5⟩
    rcases turn i n H5 w5 with ⟨stop, fin⟩ | ⟨go, Nx, next, step⟩
    · refine thnF (T.done (X.blk s3 H3 scope ce fp) rfl rfl rfl hc i [] s5 _ H5 (fun _ _ => False) I5 (fps I5 n5) st5 stop) fun r s6 ⟨hr, I6⟩ => ?_
      subst hr
      have I7 : Inv X pins σ H5 s6 := I3.call' (ch := fp) I6.os I6.base I6.hok I6.bare fun b hb => let f := (f3 b hb).1; ⟨f.2.2.2.1, f.2.1, f.2.2.2.2.1, f.2.2.2.2.2⟩
      have nC : H5 s3.heap.objs.size = none := by
        have := (show H5 ce.locals = none from I6.free)
        rwa [top] at this
      obtain ⟨m, hn, _⟩ := I6.loc
      have hn : s6.heap.Ns s3.heap.objs.size m := by
        have := (show s6.heap.Ns ce.locals m from hn)
        rwa [top] at this
      obtain ⟨g0, g1, g2, g3, g4, g5⟩ := I3.fpOk (Nat.le_refl _) nC
      exact ⟨m, hn, fun h'' sb => ⟨.ref D, H5, I7.turned (t' := s6.toks) (fun b o hb e => (sb.2 b hb).trans e) g0 g1 g3 g4 g5, rfl, fin⟩⟩
    · refine thnF (T.item (X.blk s3 H3 scope ce fp) rfl rfl rfl hc i [] s5 _ H5 (fun _ _ => False) I5 (fps I5 n5) st5 go) fun r s6 ⟨u, hr, h6⟩ => ?_
      subst hr
      refine thnF h6 fun _ s7 ⟨x, H7, I7, r7, y7, st7, n7⟩ => ?_
      refine thnF (pg.run _ s7 _ H7 x u _ (I7.pinned (fps I7 n7) (T.obj _ _ st7)) r7 (step x H7 y7)) fun _ s8 ⟨σ8, H8, I8, hw8, q8⟩ => ?_
      refine thnF (pt.run _ s8 σ8 H8 _ I8 q8) fun b s9 ⟨H9, I9, q9⟩ => ?_
      have on : ∀ {s' : Shared} {H' : Hp}, Inv (X.blk s3 H3 scope ce fp) ([] ++ pinsAt fp s7.heap) σ8 H' s' → Nx H' → ∃ m, m < n ∧ ∃ i H', Inv (X.blk s3 H3 scope ce fp) [] (wipe σ (own.map (·.2))) H' s' ∧ tn i s'.heap ∧ (∀ b ∈ fp, H' b = none) ∧ W i m H' := fun {s' H'} I' nx => by
        obtain ⟨m', hm, w'⟩ := next H' nx
        have pin : ∀ b ∈ fp, ∀ o, s7.heap.get? b = some o → s'.heap.get? b = some o ∧ H' b = none := fun b hb o e =>
          let z := I'.pin (b, o) (List.mem_append_right _ (List.mem_append_right _ (mem_pinsAt hb e)))
          ⟨z.1, z.2.1⟩
        refine ⟨m', hm, i + 1, H', (I'.unpinned (pins := [])).weak (by rw [← hw8, wipe_length]) (fun j v e => ?_), T.keep _ _ _ st7 fun b hb o e => (pin b hb o e).1, fun b hb => ?_, w'⟩
        · rw [← hw8] at e
          exact (wipe_some e).1
        · obtain ⟨o, e, _⟩ := T.obj _ _ st7 b hb
          exact (pin b hb o e).2
      cases b with
      | false =>
        simp only [Bool.false_eq_true, if_false] at q9 ⊢
        exact on I9 q9
      | true =>
        simp only [if_true] at q9 ⊢
        refine thnF (pe.run _ s9 σ8 H9 _ I9 q9) fun z s10 ⟨yv, H10, I10, r10, k, S, n, ey, eD, few, nx⟩ => ?_
        subst ey
        obtain ⟨tk, rfl⟩ := r10
        exact iset_put (X := X.blk s3 H3 scope ce fp) I10 eD few fun s11 I11 => on I11 (nx)
  exact PpSet.codeAny_compStart_set loop (T.self X.A 0 _ _ _ st4 loop)
theorem scI_it {P : Program} {w : World} {J : It} {n : Nat} {G : Hp → Prop} {Y : Nat → Hp → V → Hp → Prop} (wk : Walk J n G Y) {g : TG} {tt : TT} {te : TE} {vs : List Nat} {σ : L2.St} {H1 : Hp} {D : Addr} {Qd : Hp → Prop} (Pv : Nat → Hp → Prop) (h0 : Pv 0 (upd H1 D (ISetO P w D (fun _ => false) 0))) (hG : ∀ i H, i ≤ n → Pv i H → G H)
    (hs : ∀ i x H H', i < n → Pv i H → Y i H x H' → g x (wipe σ vs) H' fun σ2 H2 => wipe σ2 vs = wipe σ vs ∧ tt σ2 H2 fun b H3 =>
      if b = true then te σ2 H3 fun y H4 => ∃ (k : Int) (S : Int → Bool) (n : Nat), y = .int k ∧ H4 D = some (ISetO P w D S n) ∧ n + 1 < scanBound ∧ Pv (i + 1) (upd H4 D (ISetO P w D (fun k' => S k' || decide (k' = k)) (if S k then n else n + 1))) else Pv (i + 1) H3) (hd : ∀ H, Pv n H → Qd H) :
    ∃ W : Nat → Nat → Hp → Prop, (∃ m, W 0 m (upd H1 D (ISetO P w D (fun _ => false) 0))) ∧ ∀ i m H, W i m H →
      (J.stop i H ∧ Qd H) ∨ (J.go i H ∧ ∃ Nx : Hp → Prop, (∀ H', Nx H' → ∃ m', m' < m ∧ W (i + 1) m' H') ∧ ∀ x H', J.yld i H x H' → g x (wipe σ vs) H' fun σ2 H2 => wipe σ2 vs = wipe σ vs ∧ tt σ2 H2 fun b H3 =>
        if b = true then te σ2 H3 fun y H4 => ∃ (k : Int) (S : Int → Bool) (n : Nat), y = .int k ∧ H4 D = some (ISetO P w D S n) ∧ n + 1 < scanBound ∧ Nx (upd H4 D (ISetO P w D (fun k' => S k' || decide (k' = k)) (if S k then n else n + 1))) else Nx H3) := by
  refine ⟨fun i m H => m = n - i ∧ i ≤ n ∧ Pv i H, ⟨n, by simp, Nat.zero_le _, h0⟩, ?_⟩
  rintro i m H ⟨rfl, hi, p⟩
  have q := hG i H hi p
  by_cases hlt : i < n
  · exact .inr ⟨wk.goes i H hlt q, Pv (i + 1), fun H' p' => ⟨n - (i + 1), by omega, rfl, hlt, p'⟩, fun x H' y => hs i x H H' hlt p (wk.yields i H x H' hlt q y)⟩
  · have e : i = n := by omega
    subst e
    exact .inl ⟨wk.stops H q, hd H p⟩
/-- how many it has -/
theorem call_lenI : CallR X (.builtin "len") (fun xs H Q => ∃ (a : Addr) (S : Int → Bool) (n : Nat), xs = [.ref a] ∧ H a = some (ISetO X.prog X.w a S n) ∧ n < 4096 ∧ Q (.int n) H) := by
  intro pins s σ H xs us Q I r h
  obtain ⟨a, S, n, rfl, ha, few, q⟩ := h
  obtain ⟨u, rfl, ru⟩ := vals1 r
  cases ru
  obtain ⟨o, ho, hex, es, ep, t, hd, _, _, hn, hf⟩ := (show ISet X.prog X.w s.heap a S n from (I.hok a _ ha).1)
  subst hn
  refine call_len_set ho hex hd hf (by omega) ?_
  exact ⟨.int es.size, H, I.kept (t' := s.toks + 1 + 1) fun _ _ e => e, ⟨s.toks + 1, rfl⟩, q⟩
end
end Fb

namespace Fb
open PySem PySem.Spec PyProof.Rows L2
/-! ### the cheapest cost, by a plan and by prices -/
theorem rsumN_mul (n : Nat) (c : Rat) (f : Nat → Rat) : rsumN n (fun i => c * f i) = c * rsumN n f := by
  induction n with
  | zero => show (0 : Rat) = c * 0; grind
  | succ n ih => rw [rsumN_succ, rsumN_succ, ih]; grind
theorem rsumN_sub (n : Nat) (f g : Nat → Rat) : rsumN n (fun i => f i - g i) = rsumN n f - rsumN n g := by
  induction n with
  | zero => show (0 : Rat) = 0 - 0; grind
  | succ n ih => rw [rsumN_succ, rsumN_succ, rsumN_succ, ih]; grind
theorem rsumN_le {n : Nat} {f g : Nat → Rat} (h : ∀ i, i < n → f i ≤ g i) : rsumN n f ≤ rsumN n g := by
  induction n with
  | zero => exact Rat.le_refl
  | succ n ih =>
    rw [rsumN_succ, rsumN_succ]
    have := ih fun i hi => h i (by omega)
    have := h n (by omega)
    grind
/-- a plan -/
structure Pln (M N : Nat) (p q : Nat → Rat) (x : Nat → Nat → Rat) : Prop where
  nn : ∀ i, i < M → ∀ j, j < N → 0 ≤ x i j
  row : ∀ i, i < M → rsumN N (x i) = p i
  col : ∀ j, j < N → rsumN M (fun i => x i j) = q j
def spent (M N : Nat) (c x : Nat → Nat → Rat) : Rat := rsumN M fun i => rsumN N fun j => c i j * x i j
def gain (M N : Nat) (p q h t : Nat → Rat) : Rat := rsumN M (fun i => h i * p i) - rsumN N (fun j => t j * q j)
theorem gain_eq {M N : Nat} {p q h t : Nat → Rat} {x : Nat → Nat → Rat} (P : Pln M N p q x) : gain M N p q h t = rsumN M fun i => rsumN N fun j => (h i - t j) * x i j := by
  have e1 : rsumN M (fun i => h i * p i) = rsumN M fun i => rsumN N fun j => h i * x i j := rsumN_congr fun i hi => by rw [rsumN_mul, P.row i hi]
  have e2 : rsumN N (fun j => t j * q j) = rsumN M fun i => rsumN N fun j => t j * x i j := by
    rw [rsumN_swap]
    exact rsumN_congr fun j hj => by rw [rsumN_mul, P.col j hj]
  unfold gain
  rw [e1, e2, ← rsumN_sub]
  refine rsumN_congr fun i _ => ?_
  rw [← rsumN_sub]
  exact rsumN_congr fun j _ => by grind
theorem weak {M N : Nat} {c : Nat → Nat → Rat} {p q h t : Nat → Rat} {x : Nat → Nat → Rat} (P : Pln M N p q x) (le : ∀ i, i < M → ∀ j, j < N → h i - t j ≤ c i j) : gain M N p q h t ≤ spent M N c x := by
  rw [gain_eq P]
  exact rsumN_le fun i hi => rsumN_le fun j hj => Rat.mul_le_mul_of_nonneg_right (le i hi j hj) (P.nn i hi j hj)
/-- the cheapest cost: a plan costs, and prices bring, just this -/
structure Opt (M N : Nat) (c : Nat → Nat → Rat) (p q h t : Nat → Rat) (v : Rat) : Prop where
  pl : ∃ x, Pln M N p q x ∧ spent M N c x = v
  le : ∀ i, i < M → ∀ j, j < N → h i - t j ≤ c i j
  br : gain M N p q h t = v
theorem Opt.ub {M N : Nat} {c : Nat → Nat → Rat} {p q h t : Nat → Rat} {v : Rat} (O : Opt M N c p q h t v) {x : Nat → Nat → Rat} (P : Pln M N p q x) : v ≤ spent M N c x := by
  rw [← O.br]
  exact weak P O.le
theorem Opt.lb {M N : Nat} {c : Nat → Nat → Rat} {p q h t : Nat → Rat} {v : Rat} (O : Opt M N c p q h t v) {h' t' : Nat → Rat} (le : ∀ i, i < M → ∀ j, j < N → h' i - t' j ≤ c i j) : gain M N p q h' t' ≤ v := by
  obtain ⟨x, P, e⟩ := O.pl
  rw [← e]
  exact weak P le
theorem Opt.same {M N : Nat} {c : Nat → Nat → Rat} {p q h t h' t' : Nat → Rat} {v v' : Rat} (O : Opt M N c p q h t v) (O' : Opt M N c p q h' t' v') : v = v' := by
  have a := O.lb O'.le
  have b := O'.lb O.le
  rw [O'.br] at a
  rw [O.br] at b
  exact Rat.le_antisymm b a
end Fb

namespace Fb
open PySem PySem.Spec PyProof.Rows L2
/-! ### the cheapest cost along a line, from one place, and by costs of 1 -/
def rabs (q : Rat) : Rat := if q < 0 then -q else q
theorem rabs_nn (q : Rat) : 0 ≤ rabs q := by unfold rabs; split <;> grind
theorem rabs_le (q : Rat) : q ≤ rabs q ∧ -q ≤ rabs q := by unfold rabs; split <;> grind
theorem rabs_of {q b : Rat} (h1 : q ≤ b) (h2 : -q ≤ b) : rabs q ≤ b := by unfold rabs; split <;> assumption
/-- the least of some -/
theorem least_of {n : Nat} (n0 : 0 < n) (g : Nat → Rat) : ∃ m, (∀ j, j < n → m ≤ g j) ∧ ∃ j, j < n ∧ m = g j := by
  induction n with
  | zero => omega
  | succ n ih =>
    by_cases e : n = 0
    · subst e
      exact ⟨g 0, fun j hj => by rw [show j = 0 by omega]; exact Rat.le_refl, 0, by omega, rfl⟩
    · obtain ⟨m, h1, j, hj, h2⟩ := ih (by omega)
      by_cases c : g n ≤ m
      · refine ⟨g n, fun i hi => ?_, n, by omega, rfl⟩
        by_cases d : i = n
        · subst d
          exact Rat.le_refl
        · have := h1 i (by omega)
          grind
      · refine ⟨m, fun i hi => ?_, j, by omega, h2⟩
        by_cases d : i = n
        · subst d
          grind
        · exact h1 i (by omega)
/-- any prices are no better than such of one function, where costs are distances -/
theorem one_fun {n : Nat} (n0 : 0 < n) {c : Nat → Nat → Rat} {p q h t : Nat → Rat} {v : Rat} (O : Opt n n c p q h t v) (pn : ∀ i, i < n → 0 ≤ p i) (qn : ∀ i, i < n → 0 ≤ q i) (c0 : ∀ i, i < n → c i i = 0) :
    ∃ f : Nat → Rat, v ≤ rsumN n (fun i => f i * (p i - q i)) ∧ (∀ i, i < n → (∀ j, j < n → f i ≤ t j + c i j) ∧ ∃ j, j < n ∧ f i = t j + c i j) := by
  obtain ⟨f, sp⟩ : ∃ f : Nat → Rat, ∀ i, (∀ j, j < n → f i ≤ t j + c i j) ∧ ∃ j, j < n ∧ f i = t j + c i j :=
    ⟨fun i => Classical.choose (least_of n0 fun j => t j + c i j), fun i => Classical.choose_spec (least_of n0 fun j => t j + c i j)⟩
  refine ⟨f, ?_, fun i _ => sp i⟩
  rw [← O.br]
  unfold gain
  rw [← rsumN_sub]
  refine rsumN_le fun i hi => ?_
  have h1 : h i ≤ f i := by
    obtain ⟨j, hj, e⟩ := (sp i).2
    have := O.le i hi j hj
    grind
  have h2 : f i ≤ t i := by
    have := (sp i).1 i hi
    rw [c0 i hi] at this
    grind
  have h3 := Rat.mul_le_mul_of_nonneg_right h1 (pn i hi)
  have h4 := Rat.mul_le_mul_of_nonneg_right h2 (qn i hi)
  grind
/-- where a line's places stand -/
def spot (l : Nat → Rat) (k : Nat) : Rat := rsumN k l
theorem spot_mono {l : Nat → Rat} {n : Nat} (nn : ∀ k, k + 1 < n → 0 ≤ l k) {i j : Nat} (ij : i ≤ j) (jn : j < n) : spot l i ≤ spot l j := by
  obtain ⟨d, rfl⟩ := Nat.le.dest ij
  clear ij
  induction d with
  | zero => exact Rat.le_refl
  | succ d ih =>
    have h1 := ih (by omega)
    have h2 := nn (i + d) (by omega)
    have h3 : spot l (i + (d + 1)) = spot l (i + d) + l (i + d) := rsumN_succ (i + d) l
    grind
def dist (l : Nat → Rat) (i j : Nat) : Rat := rabs (spot l i - spot l j)
def more (p q : Nat → Rat) (k : Nat) : Rat := rsumN (k + 1) fun i => p i - q i
theorem abel (n : Nat) (f p q : Nat → Rat) : rsumN (n + 1) (fun i => f i * (p i - q i)) = rsumN n (fun k => (f k - f (k + 1)) * more p q k) + f n * more p q n := by
  induction n with
  | zero =>
    rw [rsumN_succ]
    unfold more
    rw [rsumN_succ]
    show (0 : Rat) + _ = 0 + f 0 * (0 + _)
    grind
  | succ n ih =>
    rw [rsumN_succ, ih, rsumN_succ]
    have : more p q (n + 1) = more p q n + (p (n + 1) - q (n + 1)) := rsumN_succ (n + 1) _
    rw [this]
    grind
theorem mul_rabs {a b l : Rat} (h1 : a ≤ l) (h2 : -a ≤ l) : a * b ≤ l * rabs b := by
  unfold rabs
  split
  · have := Rat.mul_le_mul_of_nonneg_right h2 (show 0 ≤ -b by grind)
    grind
  · exact Rat.mul_le_mul_of_nonneg_right h1 (by grind)
/-- the cost along a line -/
theorem line_cost {n : Nat} {l p q h t : Nat → Rat} {v : Rat} (O : Opt (n + 1) (n + 1) (dist l) p q h t v) (nn : ∀ k, k < n → 0 ≤ l k) (pn : ∀ i, i < n + 1 → 0 ≤ p i) (qn : ∀ i, i < n + 1 → 0 ≤ q i) (one : more p q n = 0) :
    v = rsumN n fun k => l k * rabs (more p q k) := by
  have d0 : ∀ i, dist l i i = 0 := fun i => by unfold dist rabs; split <;> grind
  have dn : ∀ k, k < n → dist l k (k + 1) = l k := fun k hk => by
    have h3 : spot l (k + 1) = spot l k + l k := rsumN_succ k l
    have := nn k hk
    unfold dist rabs
    split <;> grind
  have ds : ∀ i j, dist l i j = dist l j i := fun i j => by unfold dist rabs; split <;> split <;> grind
  have tri : ∀ i j k, dist l i k ≤ dist l i j + dist l j k := fun i j k => by unfold dist rabs; split <;> split <;> split <;> grind
  refine Rat.le_antisymm ?_ ?_
  · obtain ⟨f, h1, h2⟩ := one_fun (by omega) O pn qn fun i _ => d0 i
    rw [abel, one] at h1
    have h3 : rsumN n (fun k => (f k - f (k + 1)) * more p q k) ≤ rsumN n fun k => l k * rabs (more p q k) := rsumN_le fun k hk => by
      refine mul_rabs ?_ ?_
      · obtain ⟨j, hj, e⟩ := (h2 (k + 1) (by omega)).2
        have a := (h2 k (by omega)).1 j hj
        have b := tri k (k + 1) j
        rw [dn k hk] at b
        grind
      · obtain ⟨j, hj, e⟩ := (h2 k (by omega)).2
        have a := (h2 (k + 1) (by omega)).1 j hj
        have b := tri (k + 1) k j
        rw [ds (k + 1) k, dn k hk] at b
        grind
    grind
  · -- prices that go down by a stretch where the one has more, and up else
    have fe : ∃ f : Nat → Rat, ∀ k, f k - f (k + 1) = if 0 ≤ more p q k then l k else -l k :=
      ⟨fun k => -rsumN k fun k => if 0 ≤ more p q k then l k else -l k, fun k => by
        show -rsumN k _ - -rsumN (k + 1) _ = _
        rw [rsumN_succ]
        grind⟩
    obtain ⟨f, hf⟩ := fe
    have step : ∀ d i, i + d < n + 1 → f i - f (i + d) ≤ spot l (i + d) - spot l i ∧ f (i + d) - f i ≤ spot l (i + d) - spot l i := fun d i => by
      induction d with
      | zero => intro _; exact ⟨by show f i - f i ≤ _; grind, by show f i - f i ≤ _; grind⟩
      | succ d ih =>
        intro hd
        have h1 := ih (by omega)
        have h2 := hf (i + d)
        have h3 : spot l (i + (d + 1)) = spot l (i + d) + l (i + d) := rsumN_succ (i + d) l
        have h4 := nn (i + d) (by omega)
        have h5 : i + (d + 1) = i + d + 1 := rfl
        rw [h5] at h3 ⊢
        by_cases c : 0 ≤ more p q (i + d)
        · rw [if_pos c] at h2
          grind
        · rw [if_neg c] at h2
          grind
    have le : ∀ i, i < n + 1 → ∀ j, j < n + 1 → f i - f j ≤ dist l i j := fun i hi j hj => by
      by_cases c : i ≤ j
      · obtain ⟨d, rfl⟩ := Nat.le.dest c
        have := (step d i hj).1
        have k := (rabs_le (spot l i - spot l (i + d))).2
        unfold dist
        grind
      · obtain ⟨d, e⟩ := Nat.le.dest (show j ≤ i by omega)
        subst e
        have := (step d j hi).2
        have k := (rabs_le (spot l (j + d) - spot l j)).1
        unfold dist
        grind
    have k := O.lb le
    have e : gain (n + 1) (n + 1) p q f f = rsumN (n + 1) fun i => f i * (p i - q i) := by
      unfold gain
      rw [← rsumN_sub]
      exact rsumN_congr fun i _ => by grind
    rw [e, abel, one] at k
    have e2 : rsumN n (fun k => l k * rabs (more p q k)) = rsumN n fun k => (f k - f (k + 1)) * more p q k := rsumN_congr fun k hk => by
      rw [hf k]
      unfold rabs
      by_cases c : 0 ≤ more p q k
      · rw [if_pos c, if_neg (by grind)]
      · rw [if_neg c, if_pos (by grind)]
        grind
    rw [e2]
    grind
/-- the cost from one place -/
theorem rsumN_only {n a : Nat} {f : Nat → Rat} (an : a < n) (h : ∀ i, i < n → i ≠ a → f i = 0) : rsumN n f = f a := by
  induction n with
  | zero => omega
  | succ n ih =>
    rw [rsumN_succ]
    by_cases e : a = n
    · subst e
      rw [rsumN_zero fun i hi => h i (by omega) (by omega)]
      grind
    · rw [ih (by omega) fun i hi => h i (by omega), h n (by omega) (fun z => e z.symm)]
      grind
theorem alone_cost {M N a : Nat} {c : Nat → Nat → Rat} {p q h t : Nat → Rat} {v : Rat} (O : Opt M N c p q h t v) (aM : a < M) (p0 : ∀ i, i < M → i ≠ a → p i = 0) : v = rsumN N fun j => q j * c a j := by
  obtain ⟨x, P, e⟩ := O.pl
  have x0 : ∀ i, i < M → i ≠ a → ∀ j, j < N → x i j = 0 := fun i hi ia j hj => by
    have h1 := rsumN_ge (f := x i) (fun j hj => P.nn i hi j hj) hj
    rw [P.row i hi, p0 i hi ia] at h1
    exact Rat.le_antisymm h1 (P.nn i hi j hj)
  have xa : ∀ j, j < N → x a j = q j := fun j hj => by
    rw [← P.col j hj]
    exact (rsumN_only aM fun i hi ia => x0 i hi ia j hj).symm
  rw [← e]
  unfold spent
  rw [rsumN_only aM fun i hi ia => rsumN_zero fun j hj => by rw [x0 i hi ia j hj]; grind]
  exact rsumN_congr fun j hj => by rw [xa j hj]; grind
/-- by costs of 1 -/
def pos0 (q : Rat) : Rat := if 0 < q then q else 0
def unlike (i j : Nat) : Rat := if i = j then 0 else 1
theorem unlike_cost {n : Nat} (n0 : 0 < n) {p q h t : Nat → Rat} {v : Rat} (O : Opt n n unlike p q h t v) (pn : ∀ i, i < n → 0 ≤ p i) (qn : ∀ i, i < n → 0 ≤ q i) (one : rsumN n p = rsumN n q) :
    v = rsumN n fun i => pos0 (p i - q i) := by
  refine Rat.le_antisymm ?_ ?_
  · obtain ⟨f, h1, h2⟩ := one_fun n0 O pn qn fun i _ => if_pos rfl
    obtain ⟨m, m1, j0, hj0, m2⟩ := least_of n0 t
    have e : rsumN n (fun i => f i * (p i - q i)) = rsumN n fun i => (f i - m) * (p i - q i) := by
      have z : rsumN n (fun i => (f i - m) * (p i - q i)) = rsumN n (fun i => f i * (p i - q i)) - m * (rsumN n p - rsumN n q) := by
        rw [← rsumN_sub n p q, ← rsumN_mul, ← rsumN_sub]
        exact rsumN_congr fun i _ => by grind
      rw [z, one]
      grind
    rw [e] at h1
    refine Rat.le_trans h1 (rsumN_le fun i hi => ?_)
    have a1 : m ≤ f i := by
      obtain ⟨j, hj, e⟩ := (h2 i hi).2
      have := m1 j hj
      unfold unlike at e
      split at e <;> grind
    have a2 : f i ≤ m + 1 := by
      have := (h2 i hi).1 j0 hj0
      unfold unlike at this
      split at this <;> grind
    unfold pos0
    split
    · have := Rat.mul_le_mul_of_nonneg_right (show f i - m ≤ 1 by grind) (show 0 ≤ p i - q i by grind)
      grind
    · have := Rat.mul_le_mul_of_nonneg_right (show 0 ≤ f i - m by grind) (show 0 ≤ -(p i - q i) by grind)
      grind
  · have le : ∀ i, i < n → ∀ j, j < n → (if 0 < p i - q i then (1 : Rat) else 0) - (if 0 < p j - q j then 1 else 0) ≤ unlike i j := fun i _ j _ => by
      unfold unlike
      by_cases c : i = j
      · subst c
        rw [if_pos rfl]
        grind
      · rw [if_neg c]
        split <;> split <;> grind
    have k := O.lb le
    unfold gain at k
    rw [← rsumN_sub] at k
    refine Rat.le_trans (rsumN_le fun i _ => ?_) k
    dsimp only
    unfold pos0
    by_cases c : 0 < p i - q i
    · rw [if_pos c, if_pos c]
      grind
    · rw [if_neg c, if_neg c]
      grind
end Fb

namespace Fb
open PySem PySem.Spec PyProof.Rows L2
def topS (i : Nat) : Stmt := PySem.Challenge.pw_farbetween_k14_whole_no_plan_is_cheaper.main.body.getD i (.Pass ⟨0, 0, 0, 0⟩)
abbrev s_p__wall : Stmt := topS 0
theorem sc_p__wall : FnScope ["k"] ["k"] (defScope s_p__wall) := ⟨rfl, rfl, rfl, by decide +kernel, rfl, by decide +kernel, by decide +kernel⟩
abbrev s_p_written : Stmt := topS 8
theorem sc_p_written : FnScope ["number", "piece", "pieces", "rest"] ["number"] (defScope s_p_written) := ⟨rfl, rfl, rfl, by decide +kernel, rfl, by decide +kernel, by decide +kernel⟩
abbrev s_p_is_whole : Stmt := topS 10
theorem sc_p_is_whole : FnScope ["thing"] ["thing"] (defScope s_p_is_whole) := ⟨rfl, rfl, rfl, by decide +kernel, rfl, by decide +kernel, by decide +kernel⟩
abbrev s_m_Share_init : Stmt := inClass (topS 12) 0
theorem sc_m_Share_init : FnScope ["self", "top", "bottom", "common"] ["self", "top", "bottom"] (defScope s_m_Share_init) := ⟨rfl, rfl, rfl, by decide +kernel, rfl, by decide +kernel, by decide +kernel⟩
abbrev s_m_Share_eq : Stmt := inClass (topS 12) 1
theorem sc_m_Share_eq : FnScope ["self", "other"] ["self", "other"] (defScope s_m_Share_eq) := ⟨rfl, rfl, rfl, by decide +kernel, rfl, by decide +kernel, by decide +kernel⟩
abbrev s_m_Share_str : Stmt := inClass (topS 12) 2
theorem sc_m_Share_str : FnScope ["self"] ["self"] (defScope s_m_Share_str) := ⟨rfl, rfl, rfl, by decide +kernel, rfl, by decide +kernel, by decide +kernel⟩
abbrev s_p_common_part : Stmt := topS 13
theorem sc_p_common_part : FnScope ["one", "other"] ["one", "other"] (defScope s_p_common_part) := ⟨rfl, rfl, rfl, by decide +kernel, rfl, by decide +kernel, by decide +kernel⟩
abbrev s_p_common_multiple : Stmt := topS 14
theorem sc_p_common_multiple : FnScope ["one", "other"] ["one", "other"] (defScope s_p_common_multiple) := ⟨rfl, rfl, rfl, by decide +kernel, rfl, by decide +kernel, by decide +kernel⟩
abbrev s_p_common_bottom : Stmt := topS 15
theorem sc_p_common_bottom : FnScope ["shares", "bottom", "share"] ["shares"] (defScope s_p_common_bottom) := ⟨rfl, rfl, rfl, by decide +kernel, rfl, by decide +kernel, by decide +kernel⟩
abbrev s_p_tops_over : Stmt := topS 16
theorem sc_p_tops_over : FnScope ["bottom", "shares", "share"] ["bottom", "shares"] (defScope s_p_tops_over) := ⟨rfl, rfl, rfl, by decide +kernel, rfl, by decide +kernel, by decide +kernel⟩
abbrev s_p_sum_of : Stmt := topS 17
theorem sc_p_sum_of : FnScope ["shares", "bottom"] ["shares"] (defScope s_p_sum_of) := ⟨rfl, rfl, rfl, by decide +kernel, rfl, by decide +kernel, by decide +kernel⟩
abbrev s_m_Haul_init : Stmt := inClass (topS 19) 0
theorem sc_m_Haul_init : FnScope ["self", "costs", "first", "second"] ["self", "costs", "first", "second"] (defScope s_m_Haul_init) := ⟨rfl, rfl, rfl, by decide +kernel, rfl, by decide +kernel, by decide +kernel⟩
abbrev s_m_Haul_cheapen : Stmt := inClass (topS 19) 1
theorem sc_m_Haul_cheapen : FnScope ["self", "costs", "hung", "gap", "way"] ["self", "costs"] (defScope s_m_Haul_cheapen) := ⟨rfl, rfl, rfl, by decide +kernel, rfl, by decide +kernel, by decide +kernel⟩
abbrev s_m_Haul_paid : Stmt := inClass (topS 19) 2
theorem sc_m_Haul_paid : FnScope ["self", "costs"] ["self", "costs"] (defScope s_m_Haul_paid) := ⟨rfl, rfl, rfl, by decide +kernel, rfl, by decide +kernel, by decide +kernel⟩
abbrev s_m_Haul_plan : Stmt := inClass (topS 19) 3
theorem sc_m_Haul_plan : FnScope ["self", "rows", "columns", "row", "column"] ["self", "rows", "columns"] (defScope s_m_Haul_plan) := ⟨rfl, rfl, rfl, by decide +kernel, rfl, by decide +kernel, by decide +kernel⟩
abbrev s_m_Haul_prices : Stmt := inClass (topS 19) 4
theorem sc_m_Haul_prices : FnScope ["self", "costs", "here", "there", "ups", "downs"] ["self", "costs"] (defScope s_m_Haul_prices) := ⟨rfl, rfl, rfl, by decide +kernel, rfl, by decide +kernel, by decide +kernel⟩
abbrev s_p_in_parts : Stmt := topS 20
theorem sc_p_in_parts : FnScope ["amounts", "grain", "part", "at", "amount"] ["amounts", "grain"] (defScope s_p_in_parts) := ⟨rfl, rfl, rfl, by decide +kernel, rfl, by decide +kernel, by decide +kernel⟩
abbrev s_p_all_prices : Stmt := topS 21
theorem sc_p_all_prices : FnScope ["costs", "known", "there", "here", "column", "row", "line", "cost", "price"] ["costs", "known"] (defScope s_p_all_prices) := ⟨rfl, rfl, rfl, by decide +kernel, rfl, by decide +kernel, by decide +kernel⟩
abbrev s_p_first_tree : Stmt := topS 22
theorem sc_p_first_tree : FnScope ["costs", "lying", "wanted", "many", "unit", "last", "more", "sought", "row", "amount", "column"] ["costs", "lying", "wanted"] (defScope s_p_first_tree) := ⟨rfl, rfl, rfl, by decide +kernel, rfl, by decide +kernel, by decide +kernel⟩
abbrev s_p_unit_for : Stmt := topS 23
theorem sc_p_unit_for : FnScope ["many"] ["many"] (defScope s_p_unit_for) := ⟨rfl, rfl, rfl, by decide +kernel, rfl, by decide +kernel, by decide +kernel⟩
abbrev s_p_rounded : Stmt := topS 24
theorem sc_p_rounded : FnScope ["tree", "many", "amounts", "row", "column", "way", "amount"] ["tree"] (defScope s_p_rounded) := ⟨rfl, rfl, rfl, by decide +kernel, rfl, by decide +kernel, by decide +kernel⟩
abbrev s_p_greedy_tree : Stmt := topS 25
theorem sc_p_greedy_tree : FnScope ["costs", "first", "second", "lying", "wanted", "tree", "cost", "row", "column", "amount"] ["costs", "first", "second"] (defScope s_p_greedy_tree) := ⟨rfl, rfl, rfl, by decide +kernel, rfl, by decide +kernel, by decide +kernel⟩
abbrev s_p_hang : Stmt := topS 26
theorem sc_p_hang : FnScope ["costs", "tree", "root", "here", "there", "ups", "downs", "waiting", "later", "row", "column"] ["costs", "tree"] (defScope s_p_hang) := ⟨rfl, rfl, rfl, by decide +kernel, rfl, by decide +kernel, by decide +kernel⟩
abbrev s_p_widest_gap : Stmt := topS 27
theorem sc_p_widest_gap : FnScope ["costs", "hung", "here", "there", "ups", "downs", "row", "column"] ["costs", "hung"] (defScope s_p_widest_gap) := ⟨rfl, rfl, rfl, by decide +kernel, rfl, by decide +kernel, by decide +kernel⟩
abbrev s_p_exchange : Stmt := topS 28
theorem sc_p_exchange : FnScope ["tree", "way", "hung", "here", "there", "ups", "downs", "row", "column", "up", "down", "shared", "giving", "amount", "gone", "each"] ["tree", "way", "hung"] (defScope s_p_exchange) := ⟨rfl, rfl, rfl, by decide +kernel, rfl, by decide +kernel, by decide +kernel⟩
abbrev s_p_are_shares : Stmt := topS 31
theorem sc_p_are_shares : FnScope ["thing", "many", "each"] ["thing", "many"] (defScope s_p_are_shares) := ⟨rfl, rfl, rfl, by decide +kernel, rfl, by decide +kernel, by decide +kernel⟩
abbrev s_p_are_amounts : Stmt := topS 32
theorem sc_p_are_amounts : FnScope ["thing", "many", "share"] ["thing", "many"] (defScope s_p_are_amounts) := ⟨rfl, rfl, rfl, by decide +kernel, rfl, by decide +kernel, by decide +kernel⟩
abbrev s_p_is_table : Stmt := topS 33
theorem sc_p_is_table : FnScope ["thing", "rows", "columns", "row"] ["thing", "rows", "columns"] (defScope s_p_is_table) := ⟨rfl, rfl, rfl, by decide +kernel, rfl, by decide +kernel, by decide +kernel⟩
abbrev s_p_is_heap : Stmt := topS 34
theorem sc_p_is_heap : FnScope ["thing"] ["thing"] (defScope s_p_is_heap) := ⟨rfl, rfl, rfl, by decide +kernel, rfl, by decide +kernel, by decide +kernel⟩
abbrev s_p_joined : Stmt := topS 35
theorem sc_p_joined : FnScope ["rows", "row", "thing"] ["rows"] (defScope s_p_joined) := ⟨rfl, rfl, rfl, by decide +kernel, rfl, by decide +kernel, by decide +kernel⟩
abbrev s_p_weighed : Stmt := topS 36
theorem sc_p_weighed : FnScope ["shares", "others", "unit", "grain", "parts", "one", "other"] ["shares", "others"] (defScope s_p_weighed) := ⟨rfl, rfl, rfl, by decide +kernel, rfl, by decide +kernel, by decide +kernel⟩
abbrev s_p_cost_of : Stmt := topS 37
theorem sc_p_cost_of : FnScope ["costs", "plan"] ["costs", "plan"] (defScope s_p_cost_of) := ⟨rfl, rfl, rfl, by decide +kernel, rfl, by decide +kernel, by decide +kernel⟩
abbrev s_p_cheapest : Stmt := topS 38
theorem sc_p_cheapest : FnScope ["costs", "first", "second", "unit", "grain", "whole_costs", "haul", "plan", "here", "there", "row"] ["costs", "first", "second"] (defScope s_p_cheapest) := ⟨rfl, rfl, rfl, by decide +kernel, rfl, by decide +kernel, by decide +kernel⟩
abbrev s_p_shares_over : Stmt := topS 39
theorem sc_p_shares_over : FnScope ["bottom", "rows", "row", "top"] ["bottom", "rows"] (defScope s_p_shares_over) := ⟨rfl, rfl, rfl, by decide +kernel, rfl, by decide +kernel, by decide +kernel⟩
abbrev s_l_well : Stmt := topS 41
theorem sc_l_well : FnScope ["_law_cell"] ["_law_cell"] (defScope s_l_well) := ⟨rfl, rfl, rfl, by decide +kernel, rfl, by decide +kernel, by decide +kernel⟩
abbrev s_l_draw : Stmt := topS 42
theorem sc_l_draw : FnScope ["_law_well_here", "_law_many", "_law_digit", "_law_prime", "_law_number"] ["_law_well_here", "_law_many"] (defScope s_l_draw) := ⟨rfl, rfl, rfl, by decide +kernel, rfl, by decide +kernel, by decide +kernel⟩
abbrev s_l_one : Stmt := topS 43
theorem sc_l_one : FnScope ["_law_well_here", "_law_some"] ["_law_well_here", "_law_some"] (defScope s_l_one) := ⟨rfl, rfl, rfl, by decide +kernel, rfl, by decide +kernel, by decide +kernel⟩
abbrev s_l_low : Stmt := topS 44
theorem sc_l_low : FnScope ["_law_top", "_law_bottom", "_law_one_here", "_law_other"] ["_law_top", "_law_bottom"] (defScope s_l_low) := ⟨rfl, rfl, rfl, by decide +kernel, rfl, by decide +kernel, by decide +kernel⟩
abbrev s_l_pair : Stmt := topS 45
theorem sc_l_pair : FnScope ["_law_share"] ["_law_share"] (defScope s_l_pair) := ⟨rfl, rfl, rfl, by decide +kernel, rfl, by decide +kernel, by decide +kernel⟩
abbrev s_l_heap : Stmt := topS 46
theorem sc_l_heap : FnScope ["_law_well_here", "_law_many", "_law_way", "_law_weights", "_law_k", "_law_at", "_law_place", "_law_weight"] ["_law_well_here", "_law_many"] (defScope s_l_heap) := ⟨rfl, rfl, rfl, by decide +kernel, rfl, by decide +kernel, by decide +kernel⟩
abbrev s_l_costs : Stmt := topS 47
theorem sc_l_costs : FnScope ["_law_well_here", "_law_here", "_law_there", "_law_most", "_law_bottom", "_law_x", "_law_y"] ["_law_well_here", "_law_here", "_law_there"] (defScope s_l_costs) := ⟨rfl, rfl, rfl, by decide +kernel, rfl, by decide +kernel, by decide +kernel⟩
abbrev s_l_shares : Stmt := topS 48
theorem sc_l_shares : FnScope ["_law_pairs", "_law_top", "_law_bottom"] ["_law_pairs"] (defScope s_l_shares) := ⟨rfl, rfl, rfl, by decide +kernel, rfl, by decide +kernel, by decide +kernel⟩
abbrev s_l_rows : Stmt := topS 49
theorem sc_l_rows : FnScope ["_law_rows_here", "_law_row"] ["_law_rows_here"] (defScope s_l_rows) := ⟨rfl, rfl, rfl, by decide +kernel, rfl, by decide +kernel, by decide +kernel⟩
abbrev s_l_added : Stmt := topS 50
theorem sc_l_added : FnScope ["_law_one_here", "_law_other"] ["_law_one_here", "_law_other"] (defScope s_l_added) := ⟨rfl, rfl, rfl, by decide +kernel, rfl, by decide +kernel, by decide +kernel⟩
abbrev s_l_total : Stmt := topS 51
theorem sc_l_total : FnScope ["_law_pairs", "_law_found", "_law_pair_here"] ["_law_pairs"] (defScope s_l_total) := ⟨rfl, rfl, rfl, by decide +kernel, rfl, by decide +kernel, by decide +kernel⟩
abbrev s_l_by : Stmt := topS 52
theorem sc_l_by : FnScope ["_law_one_here", "_law_other"] ["_law_one_here", "_law_other"] (defScope s_l_by) := ⟨rfl, rfl, rfl, by decide +kernel, rfl, by decide +kernel, by decide +kernel⟩
abbrev s_l_below : Stmt := topS 53
theorem sc_l_below : FnScope ["_law_one_here", "_law_other"] ["_law_one_here", "_law_other"] (defScope s_l_below) := ⟨rfl, rfl, rfl, by decide +kernel, rfl, by decide +kernel, by decide +kernel⟩
abbrev s_l_filled : Stmt := topS 54
theorem sc_l_filled : FnScope ["_law_well_here", "_law_first", "_law_second", "_law_have", "_law_want", "_law_plan", "_law_spots", "_law_x", "_law_y", "_law_amount", "_law_share"] ["_law_well_here", "_law_first", "_law_second"] (defScope s_l_filled) := ⟨rfl, rfl, rfl, by decide +kernel, rfl, by decide +kernel, by decide +kernel⟩
abbrev s_l_cost : Stmt := topS 55
theorem sc_l_cost : FnScope ["_law_costs_here", "_law_plan", "_law_found", "_law_row", "_law_amounts", "_law_cost_here", "_law_amount"] ["_law_costs_here", "_law_plan"] (defScope s_l_cost) := ⟨rfl, rfl, rfl, by decide +kernel, rfl, by decide +kernel, by decide +kernel⟩
abbrev s_l_less : Stmt := topS 56
theorem sc_l_less : FnScope ["_law_one_here", "_law_other"] ["_law_one_here", "_law_other"] (defScope s_l_less) := ⟨rfl, rfl, rfl, by decide +kernel, rfl, by decide +kernel, by decide +kernel⟩
abbrev s_l_top_prices : Stmt := topS 57
theorem sc_l_top_prices : FnScope ["_law_well_here", "_law_costs_here", "_law_there", "_law_here", "_law_row", "_law_most", "_law_cost_here", "_law_price", "_law_one_here"] ["_law_well_here", "_law_costs_here"] (defScope s_l_top_prices) := ⟨rfl, rfl, rfl, by decide +kernel, rfl, by decide +kernel, by decide +kernel⟩
abbrev s_l_brought : Stmt := topS 58
theorem sc_l_brought : FnScope ["_law_prices", "_law_first", "_law_second", "_law_gained", "_law_price", "_law_share"] ["_law_prices", "_law_first", "_law_second"] (defScope s_l_brought) := ⟨rfl, rfl, rfl, by decide +kernel, rfl, by decide +kernel, by decide +kernel⟩
abbrev s_l_mixed : Stmt := topS 59
theorem sc_l_mixed : FnScope ["_law_one_here", "_law_other", "_law_part", "_law_rest", "_law_found", "_law_row", "_law_more", "_law_a", "_law_b"] ["_law_one_here", "_law_other", "_law_part"] (defScope s_l_mixed) := ⟨rfl, rfl, rfl, by decide +kernel, rfl, by decide +kernel, by decide +kernel⟩
abbrev s_l_tight : Stmt := topS 60
theorem sc_l_tight : FnScope ["_law_costs_here", "_law_plan", "_law_prices", "_law_x", "_law_row", "_law_y", "_law_amount"] ["_law_costs_here", "_law_plan", "_law_prices"] (defScope s_l_tight) := ⟨rfl, rfl, rfl, by decide +kernel, rfl, by decide +kernel, by decide +kernel⟩
abbrev s_law : Stmt := topS 61
theorem sc_law : FnScope ["_law_script", "_law_cell", "_law_well_here", "_law_most", "_law_first", "_law_second", "_law_costs_here", "_law_cost_here", "_law_plan", "_law_prices", "_law_due", "_law_told", "_law_plans", "_law_one_here", "_law_spent", "_law_k", "_law_some", "_law_price"] ["_law_script"] (defScope s_law) := ⟨rfl, rfl, rfl, by decide +kernel, rfl, by decide +kernel, by decide +kernel⟩
set_option maxHeartbeats 4000000 in
structure Txt (K : PySem.W.Frag) (mg : Str → Option Value) where
  c_FarError : Addr
  g_FarError : mg "FarError" = some (.ref c_FarError)
  c_NoShare : Addr
  g_NoShare : mg "NoShare" = some (.ref c_NoShare)
  c_NoHeap : Addr
  g_NoHeap : mg "NoHeap" = some (.ref c_NoHeap)
  c_NoCosts : Addr
  g_NoCosts : mg "NoCosts" = some (.ref c_NoCosts)
  c_Share : Addr
  g_Share : mg "Share" = some (.ref c_Share)
  c_Haul : Addr
  g_Haul : mg "Haul" = some (.ref c_Haul)
  f_p__wall : Addr
  d_p__wall : FuncData
  F_p__wall : Fun K "_wall" "_wall" s_p__wall f_p__wall d_p__wall
  b_p__wall : Binds K d_p__wall ["k"] []
  g_p__wall : mg "_wall" = some (.ref f_p__wall)
  f_p_written : Addr
  d_p_written : FuncData
  F_p_written : Fun K "written" "written" s_p_written f_p_written d_p_written
  b_p_written : Binds K d_p_written ["number"] []
  g_p_written : mg "written" = some (.ref f_p_written)
  f_p_is_whole : Addr
  d_p_is_whole : FuncData
  F_p_is_whole : Fun K "is_whole" "is_whole" s_p_is_whole f_p_is_whole d_p_is_whole
  b_p_is_whole : Binds K d_p_is_whole ["thing"] []
  g_p_is_whole : mg "is_whole" = some (.ref f_p_is_whole)
  f_m_Share_init : Addr
  d_m_Share_init : FuncData
  F_m_Share_init : FunD K "__init__" "Share.__init__" (defArgs s_m_Share_init) (defBody s_m_Share_init) (defScope s_m_Share_init) [.int 1] [] f_m_Share_init d_m_Share_init
  b_m_Share_init : Binds K d_m_Share_init ["self", "top", "bottom"] []
  e_m_Share_init : ∃ ds, Vals [.int 1] ds ∧ Binds K d_m_Share_init ["self", "top", "bottom"] ds
  f_m_Share_eq : Addr
  d_m_Share_eq : FuncData
  F_m_Share_eq : Fun K "__eq__" "Share.__eq__" s_m_Share_eq f_m_Share_eq d_m_Share_eq
  b_m_Share_eq : Binds K d_m_Share_eq ["self", "other"] []
  f_m_Share_str : Addr
  d_m_Share_str : FuncData
  F_m_Share_str : Fun K "__str__" "Share.__str__" s_m_Share_str f_m_Share_str d_m_Share_str
  b_m_Share_str : Binds K d_m_Share_str ["self"] []
  f_p_common_part : Addr
  d_p_common_part : FuncData
  F_p_common_part : Fun K "common_part" "common_part" s_p_common_part f_p_common_part d_p_common_part
  b_p_common_part : Binds K d_p_common_part ["one", "other"] []
  g_p_common_part : mg "common_part" = some (.ref f_p_common_part)
  f_p_common_multiple : Addr
  d_p_common_multiple : FuncData
  F_p_common_multiple : Fun K "common_multiple" "common_multiple" s_p_common_multiple f_p_common_multiple d_p_common_multiple
  b_p_common_multiple : Binds K d_p_common_multiple ["one", "other"] []
  g_p_common_multiple : mg "common_multiple" = some (.ref f_p_common_multiple)
  f_p_common_bottom : Addr
  d_p_common_bottom : FuncData
  F_p_common_bottom : Fun K "common_bottom" "common_bottom" s_p_common_bottom f_p_common_bottom d_p_common_bottom
  b_p_common_bottom : Binds K d_p_common_bottom ["shares"] []
  g_p_common_bottom : mg "common_bottom" = some (.ref f_p_common_bottom)
  f_p_tops_over : Addr
  d_p_tops_over : FuncData
  F_p_tops_over : Fun K "tops_over" "tops_over" s_p_tops_over f_p_tops_over d_p_tops_over
  b_p_tops_over : Binds K d_p_tops_over ["bottom", "shares"] []
  g_p_tops_over : mg "tops_over" = some (.ref f_p_tops_over)
  f_p_sum_of : Addr
  d_p_sum_of : FuncData
  F_p_sum_of : Fun K "sum_of" "sum_of" s_p_sum_of f_p_sum_of d_p_sum_of
  b_p_sum_of : Binds K d_p_sum_of ["shares"] []
  g_p_sum_of : mg "sum_of" = some (.ref f_p_sum_of)
  f_m_Haul_init : Addr
  d_m_Haul_init : FuncData
  F_m_Haul_init : Fun K "__init__" "Haul.__init__" s_m_Haul_init f_m_Haul_init d_m_Haul_init
  b_m_Haul_init : Binds K d_m_Haul_init ["self", "costs", "first", "second"] []
  f_m_Haul_cheapen : Addr
  d_m_Haul_cheapen : FuncData
  F_m_Haul_cheapen : Fun K "cheapen" "Haul.cheapen" s_m_Haul_cheapen f_m_Haul_cheapen d_m_Haul_cheapen
  b_m_Haul_cheapen : Binds K d_m_Haul_cheapen ["self", "costs"] []
  f_m_Haul_paid : Addr
  d_m_Haul_paid : FuncData
  F_m_Haul_paid : Fun K "paid" "Haul.paid" s_m_Haul_paid f_m_Haul_paid d_m_Haul_paid
  b_m_Haul_paid : Binds K d_m_Haul_paid ["self", "costs"] []
  f_m_Haul_plan : Addr
  d_m_Haul_plan : FuncData
  F_m_Haul_plan : Fun K "plan" "Haul.plan" s_m_Haul_plan f_m_Haul_plan d_m_Haul_plan
  b_m_Haul_plan : Binds K d_m_Haul_plan ["self", "rows", "columns"] []
  f_m_Haul_prices : Addr
  d_m_Haul_prices : FuncData
  F_m_Haul_prices : Fun K "prices" "Haul.prices" s_m_Haul_prices f_m_Haul_prices d_m_Haul_prices
  b_m_Haul_prices : Binds K d_m_Haul_prices ["self", "costs"] []
  f_p_in_parts : Addr
  d_p_in_parts : FuncData
  F_p_in_parts : Fun K "in_parts" "in_parts" s_p_in_parts f_p_in_parts d_p_in_parts
  b_p_in_parts : Binds K d_p_in_parts ["amounts", "grain"] []
  g_p_in_parts : mg "in_parts" = some (.ref f_p_in_parts)
  f_p_all_prices : Addr
  d_p_all_prices : FuncData
  F_p_all_prices : Fun K "all_prices" "all_prices" s_p_all_prices f_p_all_prices d_p_all_prices
  b_p_all_prices : Binds K d_p_all_prices ["costs", "known"] []
  g_p_all_prices : mg "all_prices" = some (.ref f_p_all_prices)
  f_p_first_tree : Addr
  d_p_first_tree : FuncData
  F_p_first_tree : Fun K "first_tree" "first_tree" s_p_first_tree f_p_first_tree d_p_first_tree
  b_p_first_tree : Binds K d_p_first_tree ["costs", "lying", "wanted"] []
  g_p_first_tree : mg "first_tree" = some (.ref f_p_first_tree)
  f_p_unit_for : Addr
  d_p_unit_for : FuncData
  F_p_unit_for : Fun K "unit_for" "unit_for" s_p_unit_for f_p_unit_for d_p_unit_for
  b_p_unit_for : Binds K d_p_unit_for ["many"] []
  g_p_unit_for : mg "unit_for" = some (.ref f_p_unit_for)
  f_p_rounded : Addr
  d_p_rounded : FuncData
  F_p_rounded : Fun K "rounded" "rounded" s_p_rounded f_p_rounded d_p_rounded
  b_p_rounded : Binds K d_p_rounded ["tree"] []
  g_p_rounded : mg "rounded" = some (.ref f_p_rounded)
  f_p_greedy_tree : Addr
  d_p_greedy_tree : FuncData
  F_p_greedy_tree : Fun K "greedy_tree" "greedy_tree" s_p_greedy_tree f_p_greedy_tree d_p_greedy_tree
  b_p_greedy_tree : Binds K d_p_greedy_tree ["costs", "first", "second"] []
  g_p_greedy_tree : mg "greedy_tree" = some (.ref f_p_greedy_tree)
  f_p_hang : Addr
  d_p_hang : FuncData
  F_p_hang : Fun K "hang" "hang" s_p_hang f_p_hang d_p_hang
  b_p_hang : Binds K d_p_hang ["costs", "tree"] []
  g_p_hang : mg "hang" = some (.ref f_p_hang)
  f_p_widest_gap : Addr
  d_p_widest_gap : FuncData
  F_p_widest_gap : Fun K "widest_gap" "widest_gap" s_p_widest_gap f_p_widest_gap d_p_widest_gap
  b_p_widest_gap : Binds K d_p_widest_gap ["costs", "hung"] []
  g_p_widest_gap : mg "widest_gap" = some (.ref f_p_widest_gap)
  f_p_exchange : Addr
  d_p_exchange : FuncData
  F_p_exchange : Fun K "exchange" "exchange" s_p_exchange f_p_exchange d_p_exchange
  b_p_exchange : Binds K d_p_exchange ["tree", "way", "hung"] []
  g_p_exchange : mg "exchange" = some (.ref f_p_exchange)
  f_p_are_shares : Addr
  d_p_are_shares : FuncData
  F_p_are_shares : Fun K "are_shares" "are_shares" s_p_are_shares f_p_are_shares d_p_are_shares
  b_p_are_shares : Binds K d_p_are_shares ["thing", "many"] []
  g_p_are_shares : mg "are_shares" = some (.ref f_p_are_shares)
  f_p_are_amounts : Addr
  d_p_are_amounts : FuncData
  F_p_are_amounts : Fun K "are_amounts" "are_amounts" s_p_are_amounts f_p_are_amounts d_p_are_amounts
  b_p_are_amounts : Binds K d_p_are_amounts ["thing", "many"] []
  g_p_are_amounts : mg "are_amounts" = some (.ref f_p_are_amounts)
  f_p_is_table : Addr
  d_p_is_table : FuncData
  F_p_is_table : Fun K "is_table" "is_table" s_p_is_table f_p_is_table d_p_is_table
  b_p_is_table : Binds K d_p_is_table ["thing", "rows", "columns"] []
  g_p_is_table : mg "is_table" = some (.ref f_p_is_table)
  f_p_is_heap : Addr
  d_p_is_heap : FuncData
  F_p_is_heap : Fun K "is_heap" "is_heap" s_p_is_heap f_p_is_heap d_p_is_heap
  b_p_is_heap : Binds K d_p_is_heap ["thing"] []
  g_p_is_heap : mg "is_heap" = some (.ref f_p_is_heap)
  f_p_joined : Addr
  d_p_joined : FuncData
  F_p_joined : Fun K "joined" "joined" s_p_joined f_p_joined d_p_joined
  b_p_joined : Binds K d_p_joined ["rows"] []
  g_p_joined : mg "joined" = some (.ref f_p_joined)
  f_p_weighed : Addr
  d_p_weighed : FuncData
  F_p_weighed : Fun K "weighed" "weighed" s_p_weighed f_p_weighed d_p_weighed
  b_p_weighed : Binds K d_p_weighed ["shares", "others"] []
  g_p_weighed : mg "weighed" = some (.ref f_p_weighed)
  f_p_cost_of : Addr
  d_p_cost_of : FuncData
  F_p_cost_of : Fun K "cost_of" "cost_of" s_p_cost_of f_p_cost_of d_p_cost_of
  b_p_cost_of : Binds K d_p_cost_of ["costs", "plan"] []
  g_p_cost_of : mg "cost_of" = some (.ref f_p_cost_of)
  f_p_cheapest : Addr
  d_p_cheapest : FuncData
  F_p_cheapest : Fun K "cheapest" "cheapest" s_p_cheapest f_p_cheapest d_p_cheapest
  b_p_cheapest : Binds K d_p_cheapest ["costs", "first", "second"] []
  g_p_cheapest : mg "cheapest" = some (.ref f_p_cheapest)
  f_p_shares_over : Addr
  d_p_shares_over : FuncData
  F_p_shares_over : Fun K "shares_over" "shares_over" s_p_shares_over f_p_shares_over d_p_shares_over
  b_p_shares_over : Binds K d_p_shares_over ["bottom", "rows"] []
  g_p_shares_over : mg "shares_over" = some (.ref f_p_shares_over)
  f_l_well : Addr
  d_l_well : FuncData
  F_l_well : Fun K "_law_well" "_law_well" s_l_well f_l_well d_l_well
  b_l_well : Binds K d_l_well ["_law_cell"] []
  g_l_well : mg "_law_well" = some (.ref f_l_well)
  f_l_draw : Addr
  d_l_draw : FuncData
  F_l_draw : Fun K "_law_draw" "_law_draw" s_l_draw f_l_draw d_l_draw
  b_l_draw : Binds K d_l_draw ["_law_well_here", "_law_many"] []
  g_l_draw : mg "_law_draw" = some (.ref f_l_draw)
  f_l_one : Addr
  d_l_one : FuncData
  F_l_one : Fun K "_law_one" "_law_one" s_l_one f_l_one d_l_one
  b_l_one : Binds K d_l_one ["_law_well_here", "_law_some"] []
  g_l_one : mg "_law_one" = some (.ref f_l_one)
  f_l_low : Addr
  d_l_low : FuncData
  F_l_low : Fun K "_law_low" "_law_low" s_l_low f_l_low d_l_low
  b_l_low : Binds K d_l_low ["_law_top", "_law_bottom"] []
  g_l_low : mg "_law_low" = some (.ref f_l_low)
  f_l_pair : Addr
  d_l_pair : FuncData
  F_l_pair : Fun K "_law_pair" "_law_pair" s_l_pair f_l_pair d_l_pair
  b_l_pair : Binds K d_l_pair ["_law_share"] []
  g_l_pair : mg "_law_pair" = some (.ref f_l_pair)
  f_l_heap : Addr
  d_l_heap : FuncData
  F_l_heap : Fun K "_law_heap" "_law_heap" s_l_heap f_l_heap d_l_heap
  b_l_heap : Binds K d_l_heap ["_law_well_here", "_law_many"] []
  g_l_heap : mg "_law_heap" = some (.ref f_l_heap)
  f_l_costs : Addr
  d_l_costs : FuncData
  F_l_costs : Fun K "_law_costs" "_law_costs" s_l_costs f_l_costs d_l_costs
  b_l_costs : Binds K d_l_costs ["_law_well_here", "_law_here", "_law_there"] []
  g_l_costs : mg "_law_costs" = some (.ref f_l_costs)
  f_l_shares : Addr
  d_l_shares : FuncData
  F_l_shares : Fun K "_law_shares" "_law_shares" s_l_shares f_l_shares d_l_shares
  b_l_shares : Binds K d_l_shares ["_law_pairs"] []
  g_l_shares : mg "_law_shares" = some (.ref f_l_shares)
  f_l_rows : Addr
  d_l_rows : FuncData
  F_l_rows : Fun K "_law_rows" "_law_rows" s_l_rows f_l_rows d_l_rows
  b_l_rows : Binds K d_l_rows ["_law_rows_here"] []
  g_l_rows : mg "_law_rows" = some (.ref f_l_rows)
  f_l_added : Addr
  d_l_added : FuncData
  F_l_added : Fun K "_law_added" "_law_added" s_l_added f_l_added d_l_added
  b_l_added : Binds K d_l_added ["_law_one_here", "_law_other"] []
  g_l_added : mg "_law_added" = some (.ref f_l_added)
  f_l_total : Addr
  d_l_total : FuncData
  F_l_total : Fun K "_law_total" "_law_total" s_l_total f_l_total d_l_total
  b_l_total : Binds K d_l_total ["_law_pairs"] []
  g_l_total : mg "_law_total" = some (.ref f_l_total)
  f_l_by : Addr
  d_l_by : FuncData
  F_l_by : Fun K "_law_by" "_law_by" s_l_by f_l_by d_l_by
  b_l_by : Binds K d_l_by ["_law_one_here", "_law_other"] []
  g_l_by : mg "_law_by" = some (.ref f_l_by)
  f_l_below : Addr
  d_l_below : FuncData
  F_l_below : Fun K "_law_below" "_law_below" s_l_below f_l_below d_l_below
  b_l_below : Binds K d_l_below ["_law_one_here", "_law_other"] []
  g_l_below : mg "_law_below" = some (.ref f_l_below)
  f_l_filled : Addr
  d_l_filled : FuncData
  F_l_filled : Fun K "_law_filled" "_law_filled" s_l_filled f_l_filled d_l_filled
  b_l_filled : Binds K d_l_filled ["_law_well_here", "_law_first", "_law_second"] []
  g_l_filled : mg "_law_filled" = some (.ref f_l_filled)
  f_l_cost : Addr
  d_l_cost : FuncData
  F_l_cost : Fun K "_law_cost" "_law_cost" s_l_cost f_l_cost d_l_cost
  b_l_cost : Binds K d_l_cost ["_law_costs_here", "_law_plan"] []
  g_l_cost : mg "_law_cost" = some (.ref f_l_cost)
  f_l_less : Addr
  d_l_less : FuncData
  F_l_less : Fun K "_law_less" "_law_less" s_l_less f_l_less d_l_less
  b_l_less : Binds K d_l_less ["_law_one_here", "_law_other"] []
  g_l_less : mg "_law_less" = some (.ref f_l_less)
  f_l_top_prices : Addr
  d_l_top_prices : FuncData
  F_l_top_prices : Fun K "_law_top_prices" "_law_top_prices" s_l_top_prices f_l_top_prices d_l_top_prices
  b_l_top_prices : Binds K d_l_top_prices ["_law_well_here", "_law_costs_here"] []
  g_l_top_prices : mg "_law_top_prices" = some (.ref f_l_top_prices)
  f_l_brought : Addr
  d_l_brought : FuncData
  F_l_brought : Fun K "_law_brought" "_law_brought" s_l_brought f_l_brought d_l_brought
  b_l_brought : Binds K d_l_brought ["_law_prices", "_law_first", "_law_second"] []
  g_l_brought : mg "_law_brought" = some (.ref f_l_brought)
  f_l_mixed : Addr
  d_l_mixed : FuncData
  F_l_mixed : Fun K "_law_mixed" "_law_mixed" s_l_mixed f_l_mixed d_l_mixed
  b_l_mixed : Binds K d_l_mixed ["_law_one_here", "_law_other", "_law_part"] []
  g_l_mixed : mg "_law_mixed" = some (.ref f_l_mixed)
  f_l_tight : Addr
  d_l_tight : FuncData
  F_l_tight : Fun K "_law_tight" "_law_tight" s_l_tight f_l_tight d_l_tight
  b_l_tight : Binds K d_l_tight ["_law_costs_here", "_law_plan", "_law_prices"] []
  g_l_tight : mg "_law_tight" = some (.ref f_l_tight)
  f_law : Addr
  d_law : FuncData
  F_law : Fun K "law" "law" s_law f_law d_law
  b_law : Binds K d_law ["_law_script"] []
  g_law : mg "law" = some (.ref f_law)
  cl_Share : Cls K c_Share
  M_Share : Mk K c_Share f_m_Share_init
  ti_Share : TyIns K c_Share
  n_Share_top : NoAttr K c_Share "top"
  n_Share_bottom : NoAttr K c_Share "bottom"
  h_m_Share_eq : Meth K c_Share "__eq__" f_m_Share_eq
  h_m_Share_str : Meth K c_Share "__str__" f_m_Share_str
  ne_Share : PySem.W.findIn K (.ref c_Share) "__ne__" = some (some (.builtin "object.__ne__"))
  nf_Share_int : PySem.W.notFirst K c_Share (.type "int") = true
  nf_Share_str : PySem.W.notFirst K c_Share (.type "str") = true
  nf_Share_NoneType : PySem.W.notFirst K c_Share (.type "NoneType") = true
  nf_Share_list : PySem.W.notFirst K c_Share (.type "list") = true
  nf_Share_tuple : PySem.W.notFirst K c_Share (.type "tuple") = true
  nf_Share_dict : PySem.W.notFirst K c_Share (.type "dict") = true
  nf_Share_bool : PySem.W.notFirst K c_Share (.type "bool") = true
  k_Share : PySem.W.kitOne K (.ref c_Share) (.ref c_Share) = some true
  k_Share_int : PySem.W.kitOne K (.type "int") (.ref c_Share) = some false
  k_Share_str : PySem.W.kitOne K (.type "str") (.ref c_Share) = some false
  k_Share_NoneType : PySem.W.kitOne K (.type "NoneType") (.ref c_Share) = some false
  k_Share_list : PySem.W.kitOne K (.type "list") (.ref c_Share) = some false
  k_Share_tuple : PySem.W.kitOne K (.type "tuple") (.ref c_Share) = some false
  k_Share_dict : PySem.W.kitOne K (.type "dict") (.ref c_Share) = some false
  k_Share_bool : PySem.W.kitOne K (.type "bool") (.ref c_Share) = some false
  cl_Haul : Cls K c_Haul
  M_Haul : Mk K c_Haul f_m_Haul_init
  ti_Haul : TyIns K c_Haul
  n_Haul_grain : NoAttr K c_Haul "grain"
  n_Haul_tree : NoAttr K c_Haul "tree"
  n_Haul_moves : NoAttr K c_Haul "moves"
  h_m_Haul_cheapen : Meth K c_Haul "cheapen" f_m_Haul_cheapen
  h_m_Haul_paid : Meth K c_Haul "paid" f_m_Haul_paid
  h_m_Haul_plan : Meth K c_Haul "plan" f_m_Haul_plan
  h_m_Haul_prices : Meth K c_Haul "prices" f_m_Haul_prices
  k_Haul : PySem.W.kitOne K (.ref c_Haul) (.ref c_Haul) = some true
  k_Haul_int : PySem.W.kitOne K (.type "int") (.ref c_Haul) = some false
  k_Haul_str : PySem.W.kitOne K (.type "str") (.ref c_Haul) = some false
  k_Haul_NoneType : PySem.W.kitOne K (.type "NoneType") (.ref c_Haul) = some false
  k_Haul_list : PySem.W.kitOne K (.type "list") (.ref c_Haul) = some false
  k_Haul_tuple : PySem.W.kitOne K (.type "tuple") (.ref c_Haul) = some false
  k_Haul_dict : PySem.W.kitOne K (.type "dict") (.ref c_Haul) = some false
  k_Haul_bool : PySem.W.kitOne K (.type "bool") (.ref c_Haul) = some false
  u_PIECE_LENGTH : Value
  g_PIECE_LENGTH : mg "PIECE_LENGTH" = some u_PIECE_LENGTH
  r_PIECE_LENGTH : RelV (.int 64) u_PIECE_LENGTH
  u_MOST_PLACES : Value
  g_MOST_PLACES : mg "MOST_PLACES" = some u_MOST_PLACES
  r_MOST_PLACES : RelV (.int 12) u_MOST_PLACES
  z_divmod : mg "divmod" = none
  z_str : mg "str" = none
  z_isinstance : mg "isinstance" = none
  z_int : mg "int" = none
  z_bool : mg "bool" = none
  z_abs : mg "abs" = none
  z_sum : mg "sum" = none
  z_range : mg "range" = none
  z_enumerate : mg "enumerate" = none
  z_max : mg "max" = none
  z_min : mg "min" = none
  z_len : mg "len" = none
  z_zip : mg "zip" = none
  z_list : mg "list" = none
  z_dict : mg "dict" = none
  z_sorted : mg "sorted" = none
  z_all : mg "all" = none
  kit_Share_list : PySem.W.kitOne K (.ref c_Share) (.type "list") = some false
  kit_Share_tuple : PySem.W.kitOne K (.ref c_Share) (.type "tuple") = some false
end Fb

namespace Fb
open PySem PySem.Spec PyProof.Rows L2
section
variable {P : Program} {w : World} {K : PySem.W.Frag} {mg : Str → Option Value} {base : Heap}
/-! ### is_whole, of whole numbers -/
def spWhole : Sp := fun vs H Q _ => ∃ i : Int, vs = [.int i] ∧ Q (.bl true) H
theorem ok_p_is_whole (T : Txt K mg) : FnOk P w K mg base CX0 1 T.f_p_is_whole T.d_p_is_whole ["thing"] spWhole := by
  refine T.F_p_is_whole.ok sc_p_is_whole (fun vs H Q E h => ?_) (fun cdv A outer s H vs Q E hr h => ?_)
  · obtain ⟨i, rfl, _⟩ := h
    rfl
  · obtain ⟨i, rfl, q⟩ := h
    refine ⟨_, (pss_one (ps_ret (pe_and (pe_callB call_isi (by rfl) T.z_isinstance (by decide +kernel) (pa_cons (pv 0) (pa_cons (pe_bltn (v := .ty "int") (by rfl) T.z_int (by decide +kernel) rfl) pa_nil))) (pe_one (pe_not (pe_callB call_isi (by rfl) T.z_isinstance (by decide +kernel) (pa_cons (pv 0) (pa_cons (pe_bltn (v := .ty "bool") (by rfl) T.z_bool (by decide +kernel) rfl) pa_nil)))))))), ?_⟩
    refine ⟨_, rfl, _, _, _, _, true, rfl, .ty _, .base (.int i), kit_ty (by decide +kernel), true, rfl, ?_⟩
    refine iteT ?_
    exact ⟨_, rfl, _, _, _, _, false, rfl, .ty _, .base (.int i), kit_ty (by decide +kernel), false, rfl, q⟩
/-! ### common_part -/
def spGcd : Sp := fun vs H Q _ => ∃ a b : Int, vs = [.int a, .int b] ∧ Q (.int (Int.gcd a b : Int)) H
theorem ok_p_common_part (T : Txt K mg) : FnOk P w K mg base CX0 1 T.f_p_common_part T.d_p_common_part ["one", "other"] spGcd := by
  refine T.F_p_common_part.ok sc_p_common_part (fun vs H Q E h => ?_) (fun cdv A outer s H vs Q E hr h => ?_)
  · obtain ⟨a, b, rfl, _⟩ := h
    rfl
  · obtain ⟨a, b, rfl, q⟩ := h
    refine ⟨_, (pss_cons (ps_while PassesOwn.never (pt_cmpR op_ne (pv 1) pe_int (nomark _))
  (pss_one (ps_par (i := 0) (j := 1) (by rfl) sc_p_common_part.nd rfl rfl (by decide) rfl rfl (pa_cons (pv 1) (pa_cons (pe_op op_modN (pv 0) (pv 1)) pa_nil)) (by rfl))))
 (pss_one (ps_ret (pe_callB call_abs (by rfl) T.z_abs (by decide +kernel) (pa_cons (pv 0) pa_nil))))), ?_⟩
    refine ⟨fun m σ H' => ∃ x y : Int, σ = [some (.int x), some (.int y)] ∧ m = y.natAbs ∧ Int.gcd x y = Int.gcd a b ∧ H' = H, ⟨_, a, b, rfl, rfl, rfl, rfl⟩, fun m σ H' hW => ?_⟩
    obtain ⟨x, y, rfl, rfl, hg, rfl⟩ := hW
    refine ⟨_, rfl, rfl, _, rfl, ?_⟩
    by_cases hy : y = 0
    · subst hy
      refine iteF ?_
      refine ⟨_, rfl, x, rfl, ?_⟩
      have e : (if x < 0 then -x else x) = (Int.gcd a b : Int) := by
        rw [← hg, Int.gcd_zero_right]
        split <;> omega
      rw [e]
      exact q
    · have ne : (!decide (V.int y = V.int 0)) = true := by
        rw [decide_eq_false (fun z => hy (V.int.inj z))]
        rfl
      rw [ne]
      refine iteT ?_
      refine ⟨fun σ' H'' => σ' = [some (.int y), some (.int (x.fmod y))] ∧ H'' = H', fun σ' H'' h => ?_, ?_⟩
      · obtain ⟨rfl, rfl⟩ := h
        exact ⟨_, fmod_lt x y hy, y, _, rfl, rfl, by rw [gcd_step, hg], rfl⟩
      · exact ⟨_, rfl, _, rfl, _, rfl, _, _, rfl, rfl, hy, _, _, rfl, rfl, rfl⟩
theorem log2_mono {a b : Nat} (h : a ≤ b) : a.log2 ≤ b.log2 := by
  by_cases ha : a = 0
  · subst ha
    simp
  · have hb : b ≠ 0 := by omega
    rw [Nat.le_log2 hb]
    exact Nat.le_trans (Nat.log2_self_le ha) h
theorem nat_abs {n m : Nat} (h : n < m) : (n : Int).natAbs < m := h
end

end Fb

namespace Fb
open PySem PySem.Spec PyProof.Rows L2
section
variable {P : Program} {w : World} {K : PySem.W.Frag} {mg : Str → Option Value} {base : Heap}
/-! ### Share(top, bottom) -/
def spShare (C : Addr) : Sp := fun vs H Q _ => ∃ (p dx : Addr) (t b : Int), vs = [.ref p, .int t, .int b] ∧ H p = some (.ins C dx []) ∧ b ≠ 0 ∧ b.natAbs.log2 < 9000 ∧
  ∀ H', (∀ a o, H a = some o → a ≠ p → H' a = some o) → H' p = some (.ins C dx (flds (Rat.divInt t b))) → Q .non H'
theorem ok_m_Share_init (T : Txt K mg) : FnOk P w K mg base CX0 2 T.f_m_Share_init T.d_m_Share_init ["self", "top", "bottom"] (spShare T.c_Share) := by
  refine T.F_m_Share_init.ok sc_m_Share_init (fun vs H Q E h => ?_) (fun cdv A outer s H vs Q E hr h => ?_)
  · obtain ⟨p, dx, t, b, rfl, _⟩ := h
    rfl
  · obtain ⟨p, dx, t, b, rfl, hp, hb, hl, q⟩ := h
    refine ⟨_, PSs.nox (pss_cons (ps_if (PW.pt (pw_or (pt_not (pt_val (pe_call (ok_p_is_whole T) (hr.mono (by decide)) (by rfl) T.g_p_is_whole T.F_p_is_whole.kp T.b_p_is_whole .nil pass0 (pa_cons (pv 1) pa_nil)))) (pw_or (pt_not (pt_val (pe_call (ok_p_is_whole T) (hr.mono (by decide)) (by rfl) T.g_p_is_whole T.F_p_is_whole.kp T.b_p_is_whole .nil pass0 (pa_cons (pv 2) pa_nil)))) (pw_or1 (pt_cmpR op_eq (pv 2) pe_int (nomark _))))))
  (pss_one ps_never)
  pss_nil)
 (pss_cons (ps_set (i := 3) sc_m_Share_init.nd rfl (.inl rfl) (pe_call (ok_p_common_part T) (hr.mono (by decide)) (by rfl) T.g_p_common_part T.F_p_common_part.kp T.b_p_common_part .nil pass0 (pa_cons (pv 1) (pa_cons (pv 2) pa_nil))))
 (pss_cons (ps_if (pt_cmpR op_lt (pv 2) pe_int (nomark _))
  (pss_one (ps_set (i := 3) sc_m_Share_init.nd rfl (.inl rfl) (pe_un un_neg (pv 3))))
  pss_nil)
 (pss_cons (ps_fld (pv 0) (pe_op op_fdivZ (pv 1) (pv 3)) rfl)
 (pss_one (ps_fld (pv 0) (pe_op op_fdivZ (pv 2) (pv 3)) rfl)))))), ?_⟩
    -- the test is false
    refine ⟨_, rfl, t, rfl, true, rfl, ?_⟩
    refine iteF ?_
    refine ⟨_, rfl, b, rfl, true, rfl, ?_⟩
    refine iteF ?_
    refine ⟨_, rfl, rfl, _, rfl, ?_⟩
    rw [decide_eq_false (fun z => hb (V.int.inj z))]
    refine iteF ?_
    -- common
    refine ⟨_, rfl, _, rfl, t, b, rfl, ?_⟩
    have fin : ∀ (c : Int), c = cut t b → (sFld K (tVar 0) (tOp (rI CDivZ fun i j => .int (i.fdiv j)) (tVar 1) (tVar 3)) "top") { nx := (sFld K (tVar 0) (tOp (rI CDivZ fun i j => .int (i.fdiv j)) (tVar 2) (tVar 3)) "bottom") { nx := fun _ H' => Q .non H', rt := Q }, rt := Q } [some (.ref p), some (.int t), some (.int b), some (.int c)] H := by
      intro c hc
      subst hc
      have hd : ∀ i, CDivZ i (cut t b) := fun _ => ⟨cut_ne hb, Nat.lt_of_le_of_lt (log2_mono (cut_le hb)) hl⟩
      refine ⟨_, rfl, _, rfl, _, _, rfl, rfl, hd _, _, rfl, p, T.c_Share, dx, [], rfl, hp, T.cl_Share, T.n_Share_top, (by show 0 < 1000; decide), ?_⟩
      refine ⟨_, rfl, _, rfl, _, _, rfl, rfl, hd _, _, rfl, p, T.c_Share, dx, _, rfl, upd_same, T.cl_Share, T.n_Share_bottom, (by show 1 < 1000; decide), ?_⟩
      refine q _ (fun a o e ne => ?_) ?_
      · rw [upd_ne ne, upd_ne ne]
        exact e
      · dsimp only
        rw [upd_same, cut_top hb, cut_bottom hb]
        rfl
    refine ⟨_, rfl, _, _, rfl, rfl, _, rfl, ite2 (fun h => ?_) (fun h => ?_)⟩
    · have h' : b < 0 := of_decide_eq_true h
      refine ⟨_, rfl, _, rfl, ?_⟩
      exact fin _ (by unfold cut; rw [if_pos h'])
    · have h' : ¬ b < 0 := fun z => h (decide_eq_true z)
      exact fin _ (by unfold cut; rw [if_neg h'])
/-- Share(t, b) as its caller sees it -/
theorem mk_share {C : Addr} {H : Hp} {t b : Int} {Q : Addr → Hp → Prop} {E : XK} (hb : b ≠ 0) (hl : b.natAbs.log2 < 9000) (q : ∀ H' r, Same H H' → IsShare C H' (.ref r) (Rat.divInt t b) → Q r H') :
    ∀ x dx, H x = none → H dx = none → dx ≠ x → spShare C (.ref x :: ([.int t, .int b] ++ [])) (upd (upd H dx (.own x)) x (.ins C dx [])) (fun v H2 => v = .non ∧ Q x H2) E := by
  intro x dx nx ndx ne
  refine ⟨x, dx, t, b, rfl, upd_same, hb, hl, fun H' k e => ⟨rfl, q H' x (fun a o ea => ?_) ⟨x, dx, rfl, e⟩⟩⟩
  have h1 : a ≠ x := ne_of_none ea nx
  refine k a o ?_ h1
  rw [upd_ne h1, upd_ne (ne_of_none ea ndx)]
  exact ea
end

end Fb

namespace Fb
open PySem PySem.Spec PyProof.Rows L2
section
variable {P : Program} {w : World} {K : PySem.W.Frag} {mg : Str → Option Value} {base : Heap}
/-! ### the class's own == -/
def spEq (K : PySem.W.Frag) (C : Addr) : Sp := fun vs H Q _ => ∃ (v u : V) (x : Rat), vs = [v, u] ∧ IsShare C H v x ∧
  ((∃ y : Rat, IsShare C H u y ∧ Q (.bl (decide (x = y))) H) ∨ ∃ t, TyX K H u t ∧ PySem.W.kitOne K t (.ref C) = some false ∧ Q (.bl false) H)
theorem tyShare (T : Txt K mg) {H : Hp} {p dx : Addr} {fs : List (Str × V)} (h : H p = some (.ins T.c_Share dx fs)) : TyX K H (.ref p) (.ref T.c_Share) :=
  .base (.ins h T.cl_Share T.ti_Share.ha T.ti_Share.hn T.ti_Share.htk T.ti_Share.hm)
theorem ok_m_Share_eq (T : Txt K mg) : FnOk P w K mg base CX0 1 T.f_m_Share_eq T.d_m_Share_eq ["self", "other"] (spEq K T.c_Share) := by
  refine T.F_m_Share_eq.ok sc_m_Share_eq (fun vs H Q E h => ?_) (fun cdv A outer s H vs Q E hr h => ?_)
  · obtain ⟨v, u, x, rfl, _⟩ := h
    rfl
  · obtain ⟨v, u, x, rfl, ⟨p, dx, rfl, hx⟩, h⟩ := h
    refine ⟨_, (pss_one (ps_ret (pe_and (pe_callB call_isi (by rfl) T.z_isinstance (by decide +kernel) (pa_cons (pv 1) (pa_cons (pe_glob (v := .ref T.c_Share) (by rfl) T.g_Share rfl) pa_nil))) (pe_and (pe_cmpR op_eq (pe_fld (pv 0) rfl) (pe_fld (pv 1) rfl) (nomark _)) (pe_one (pe_cmpR op_eq (pe_fld (pv 0) rfl) (pe_fld (pv 1) rfl) (nomark _))))))), ?_⟩
    rcases h with ⟨y, ⟨p', dx', rfl, hy⟩, q⟩ | ⟨t, ty, kt, q⟩
    · refine ⟨_, rfl, _, _, _, _, true, rfl, .own _, tyShare T hy, T.k_Share, true, rfl, iteT ?_⟩
      refine ⟨_, rfl, _, _, _, _, _, rfl, hx, T.cl_Share, T.n_Share_top, flds_top _, _, rfl, _, _, _, _, _, rfl, hy, T.cl_Share, T.n_Share_top, flds_top _, rfl, _, rfl, ?_⟩
      by_cases h1 : x.num = y.num
      · rw [h1, decide_eq_true rfl]
        refine iteT ?_
        refine ⟨_, rfl, _, _, _, _, _, rfl, hx, T.cl_Share, T.n_Share_bottom, flds_bottom _, _, rfl, _, _, _, _, _, rfl, hy, T.cl_Share, T.n_Share_bottom, flds_bottom _, rfl, ?_⟩
        have e : decide (V.int (x.den : Int) = V.int (y.den : Int)) = decide (x = y) := by
          refine decide_eq_decide.mpr ⟨fun z => ?_, fun z => by rw [z]⟩
          have z' : (x.den : Int) = (y.den : Int) := V.int.inj z
          exact Rat.ext h1 (by omega)
        rw [e]
        exact q
      · rw [decide_eq_false (fun z => h1 (V.int.inj z))]
        refine iteF ?_
        have e : decide (x = y) = false := decide_eq_false fun z => h1 (by rw [z])
        rw [e] at q
        exact q
    · exact ⟨_, rfl, _, _, _, _, false, rfl, .own _, ty, kt, false, rfl, iteF q⟩
/-- == or != of two shares -/
theorem eqS (T : Txt K mg) {H : Hp} {v u : V} {x y : Rat} {g : Bool → Bool} {Q : VK} (hx : IsShare T.c_Share H v x) (hy : IsShare T.c_Share H u y) (q : Q (.bl (g (decide (x = y)))) H) : rOwn2 K T.c_Share (spEq K T.c_Share) g v u H Q := by
  obtain ⟨p, dx, rfl, h⟩ := id hx
  obtain ⟨p', dx', rfl, h'⟩ := id hy
  exact ⟨p, dx, _, _, rfl, h, tyShare T h', by simp [PySem.W.notFirst], _, _, x, rfl, hx, .inl ⟨y, hy, _, rfl, q⟩⟩
/-- of a share and what is none -/
theorem eqN (T : Txt K mg) {H : Hp} {v u : V} {x : Rat} {t : Value} {g : Bool → Bool} {Q : VK} (hx : IsShare T.c_Share H v x) (ty : TyX K H u t) (nf : PySem.W.notFirst K T.c_Share t = true) (kt : PySem.W.kitOne K t (.ref T.c_Share) = some false) (q : Q (.bl (g false)) H) :
    rOwn2 K T.c_Share (spEq K T.c_Share) g v u H Q := by
  obtain ⟨p, dx, rfl, h⟩ := id hx
  exact ⟨p, dx, _, _, rfl, h, ty, nf, _, _, x, rfl, hx, .inr ⟨t, ty, kt, _, rfl, q⟩⟩
end

end Fb

namespace Fb
open PySem PySem.Spec PyProof.Rows L2
section
variable {P : Program} {w : World} {K : PySem.W.Frag} {mg : Str → Option Value} {base : Heap}
/-! ### common_multiple -/
def spCm : Sp := fun vs H Q _ => ∃ L d : Nat, vs = [.int L, .int d] ∧ 0 < L ∧ 0 < d ∧ L < 2 ^ 8001 ∧ d < 2 ^ 8001 ∧ Q (.int ((L * (d / Nat.gcd L d) : Nat))) H
theorem ok_p_common_multiple (T : Txt K mg) : FnOk P w K mg base CX0 2 T.f_p_common_multiple T.d_p_common_multiple ["one", "other"] spCm := by
  refine T.F_p_common_multiple.ok sc_p_common_multiple (fun vs H Q E h => ?_) (fun cdv A outer s H vs Q E hr h => ?_)
  · obtain ⟨L, d, rfl, _⟩ := h
    rfl
  · obtain ⟨L, d, rfl, L0, d0, hL, hd, q⟩ := h
    refine ⟨_, (pss_one (ps_ret (pe_op op_mulW (pe_op op_fdivW (pv 0) (pe_call (ok_p_common_part T) (hr.mono (by decide)) (by rfl) T.g_p_common_part T.F_p_common_part.kp T.b_p_common_part .nil pass0 (pa_cons (pv 0) (pa_cons (pv 1) pa_nil)))) (pv 1)))), ?_⟩
    have hg : 0 < Nat.gcd L d := Nat.gcd_pos_of_pos_left _ L0
    have hgle : Nat.gcd L d ≤ L := Nat.le_of_dvd L0 (Nat.gcd_dvd_left _ _)
    refine ⟨_, rfl, _, rfl, _, rfl, _, _, rfl, _, _, rfl, rfl, wide_div (b := 8001) ?_ ?_ (by decide) (by decide), _, rfl, _, _, rfl, rfl, wide_mul (a := 8001) (b := 8001) ?_ (nat_abs hd) (by decide) (by decide) (by decide), ?_⟩
    · show (0 : Int) < ((Int.gcd (L : Nat) (d : Nat) : Nat) : Int)
      rw [Int.gcd_natCast_natCast]
      omega
    · show ((Int.gcd (L : Nat) (d : Nat) : Nat) : Int).natAbs < 2 ^ 8001
      rw [Int.gcd_natCast_natCast]
      exact nat_abs (Nat.lt_of_le_of_lt hgle hL)
    · show (((L : Int) / ((Int.gcd (L : Nat) (d : Nat) : Nat) : Int))).natAbs < 2 ^ 8001
      rw [Int.gcd_natCast_natCast, ← Int.natCast_ediv]
      exact nat_abs (Nat.lt_of_le_of_lt (Nat.div_le_self _ _) hL)
    · have e : ((L : Int) / ((Int.gcd (L : Nat) (d : Nat) : Nat) : Int)) * (d : Int) = ((L * (d / Nat.gcd L d) : Nat) : Int) := by
        rw [Int.gcd_natCast_natCast, ← Int.natCast_ediv, ← Int.natCast_mul]
        congr 1
        rw [Nat.div_mul_right_comm (Nat.gcd_dvd_left L d), ← Nat.mul_div_assoc _ (Nat.gcd_dvd_right L d)]
      dsimp only
      rw [e]
      exact q
/-! ### common_bottom: n bounds each share, N their number; both are told by the caller -/
def spCb (C : Addr) : Sp := fun vs H Q _ => ∃ (v : V) (qs : List Rat), vs = [v] ∧ IsShares C H v qs ∧ lcmOn 1 qs < 2 ^ 8001 ∧ Q (.int (lcmOn 1 qs : Nat)) H
theorem lcmOn_snoc : ∀ (a : List Rat) (L : Nat) (q : Rat), lcmOn L (a ++ [q]) = lcmOn L a * (q.den / Nat.gcd (lcmOn L a) q.den)
  | [], _, _ => rfl
  | x :: r, L, q => lcmOn_snoc r _ q
theorem lcmOn_app : ∀ (a b : List Rat) (L : Nat), lcmOn L (a ++ b) = lcmOn (lcmOn L a) b
  | [], _, _ => rfl
  | x :: r, b, L => lcmOn_app r b _
theorem lcmOn_take (qs : List Rat) (i : Nat) : lcmOn 1 (qs.take i) ≤ lcmOn 1 qs := by
  have e := lcmOn_app (qs.take i) (qs.drop i) 1
  rw [List.take_append_drop] at e
  rw [e]
  exact Nat.le_of_dvd (lcmOn_pos _ _ (lcmOn_pos _ _ (by decide))) (lcmOn_dvd _ _)
theorem Few.all {n N : Nat} {qs : List Rat} (f : Few n N qs) : lcmOn 1 qs < 2 ^ 8001 := by
  have h := lcmOn_lt qs 1 n 1 (fun q hq => (f.bd q hq).den) (by decide)
  refine Nat.lt_of_lt_of_le h (Nat.pow_le_pow_right (by decide) ?_)
  have := Nat.mul_le_mul_left n f.len
  have := f.small
  omega
theorem Few.nle {n N : Nat} {qs : List Rat} (f : Few n N qs) (h : 0 < qs.length) : n ≤ 8000 := by
  have h1 : 1 ≤ N := Nat.le_trans h f.len
  have := Nat.mul_le_mul_left n h1
  have := f.small
  omega
theorem ok_p_common_bottom (T : Txt K mg) : FnOk P w K mg base CX0 3 T.f_p_common_bottom T.d_p_common_bottom ["shares"] (spCb T.c_Share) := by
  refine T.F_p_common_bottom.ok sc_p_common_bottom (fun vs H Q E h => ?_) (fun cdv A outer s H vs Q E hr h => ?_)
  · obtain ⟨v, qs, rfl, _⟩ := h
    rfl
  · obtain ⟨v, qs, rfl, ⟨p, ws, rfl, hp, aa⟩, hL, q⟩ := h
    refine ⟨_, (pss_cons (ps_set (i := 1) sc_p_common_bottom.nd rfl (.inl rfl) pe_int)
 (pss_cons (ps_for PassesOwn.never rfl (pi_list (pv 0)) (pg_name (i := 2) sc_p_common_bottom.nd rfl (.inl rfl))
  (pss_one (ps_set (i := 1) sc_p_common_bottom.nd rfl (.inl rfl) (pe_call (ok_p_common_multiple T) (hr.mono (by decide)) (by rfl) T.g_p_common_multiple T.F_p_common_multiple.kp T.b_p_common_multiple .nil pass0 (pa_cons (pv 1) (pa_cons (pe_fld (pv 2) rfl) pa_nil))))))
 (pss_one (ps_ret (pv 1))))), ?_⟩
    refine ⟨_, rfl, p, rfl, ⟨_, SqL.of hp⟩, for_list (K := K) (a := p) (xs := ws) (fun i σ H' => ∃ y, σ = [some (.ref p), some (.int (lcmOn 1 (qs.take i) : Nat)), y] ∧ H' = H) ⟨none, rfl, rfl⟩ (fun i σ H' _ h => ?_) (fun i x σ H' hi h => ?_) (fun σ H' h => ?_)⟩
    · obtain ⟨y, _, rfl⟩ := h
      exact SqL.of hp
    · obtain ⟨y, rfl, rfl⟩ := h
      obtain ⟨z, hz, px, dx, rfl, hx⟩ := aa.at hi
      have e : qs.take (i + 1) = qs.take i ++ [z] := by
        rw [List.take_add_one, hz]
        rfl
      have hl := Nat.lt_of_le_of_lt (lcmOn_take qs i) hL
      have hl2 := Nat.lt_of_le_of_lt (lcmOn_take qs (i + 1)) hL
      have hd : z.den ≤ lcmOn 1 (qs.take (i + 1)) := Nat.le_of_dvd (lcmOn_pos _ _ (by decide)) (den_dvd_lcm _ _ z (by rw [e]; simp))
      refine ⟨_, rfl, _, rfl, _, _, _, _, _, rfl, hx, T.cl_Share, T.n_Share_bottom, flds_bottom _, lcmOn 1 (qs.take i), z.den, rfl, lcmOn_pos _ _ (by decide), z.den_pos, hl, Nat.lt_of_le_of_lt hd hl2, ?_⟩
      refine ⟨some (.ref px), ?_, rfl⟩
      rw [e, lcmOn_snoc]
      rfl
    · obtain ⟨y, rfl, rfl⟩ := h
      refine ⟨_, rfl, ?_⟩
      rw [aa.1, List.take_length]
      exact q
def spTops (C : Addr) : Sp := fun vs H Q _ => ∃ (v : V) (L : Nat) (qs : List Rat) (n : Nat), vs = [.int L, v] ∧ IsShares C H v qs ∧ (∀ q ∈ qs, Bd n q) ∧ qs.length ≤ 999 ∧ n ≤ 9000 ∧ 0 < n ∧ L < 2 ^ 9000 ∧
  ∀ H' r, H r = none → Same H H' → H' r = some (.lst ((topsOf L qs).map V.int)) → Q (.ref r) H'
theorem ok_p_tops_over (T : Txt K mg) : FnOk P w K mg base CX0 1 T.f_p_tops_over T.d_p_tops_over ["bottom", "shares"] (spTops T.c_Share) := by
  refine T.F_p_tops_over.ok sc_p_tops_over (fun vs H Q E h => ?_) (fun cdv A outer s H vs Q E hr h => ?_)
  · obtain ⟨v, L, qs, n, rfl, _⟩ := h
    rfl
  · obtain ⟨v, L, qs, n, rfl, ⟨p, ws, rfl, hp, aa⟩, bd, hlen, hn, h0, hL, q⟩ := h
    refine ⟨_, (pss_one (ps_ret (pe_lc (own := [("share", 2)]) (g := (gName 2)) (tt := tYes) (by rfl) sc_p_tops_over.nd (pi_list (pv 1)) (blkOk_by (own := [("share", 2)]) (N := ["bottom", "shares", "share"]) (sc := defScope s_p_tops_over) (by decide +kernel)) (fun _ _ _ _ _ => by exact (pg_name (i := 2) sc_p_tops_over.nd rfl (.inl rfl))) (fun _ _ _ _ _ => by exact pts_nil) (fun _ _ _ _ _ => by exact (pe_op op_mulW (pe_fldK (K := K) rfl (pv 2) rfl) (pe_op op_fdivW (pv 0) (pe_fldK (K := K) rfl (pv 2) rfl))))))), ?_⟩
    refine ⟨_, rfl, p, rfl, ⟨_, SqL.of hp⟩, fun D nD => lc_all (K := K) (a := p) (xs := ws) (fun i y _ => ∃ z, qs[i]? = some z ∧ y = .int (z.num * ((L / z.den : Nat) : Int))) (fun _ _ _ _ _ h => h) nD (SqL.of hp) (by rw [aa.1]; omega) (fun i x H2 k hi s2 _ hk => ?_) (fun H2 ys s2 e l r => ?_)⟩
    · obtain ⟨z, hz, px, dx, rfl, hx⟩ := aa.at hi
      have bz := bd z (List.mem_of_getElem? hz)
      have hx2 := hid_same _ _ (s2 _ _ hx)
      refine ⟨rfl, _, rfl, _, _, _, _, _, rfl, hx2, T.cl_Share, T.n_Share_top, flds_top _, _, rfl, _, rfl, _, _, _, _, _, rfl, hx2, T.cl_Share, T.n_Share_bottom, flds_bottom _, _, _, rfl, rfl, wide_div (by have := z.den_pos; omega) (den_abs bz) h0 hn, _, _, rfl, rfl, wide_mul bz.num (b := 9000) ?_ h0 (by decide) (by omega), ?_⟩
      · show ((L : Int) / (z.den : Int)).natAbs < 2 ^ 9000
        rw [← Int.natCast_ediv]
        exact nat_abs (Nat.lt_of_le_of_lt (Nat.div_le_self _ _) hL)
      · refine hk _ _ (Same.refl _) ⟨z, hz, ?_⟩
        dsimp only
        rw [Int.natCast_ediv]
    · have e2 : ys = (topsOf L qs).map V.int := by
        refine List.ext_getElem? fun i => ?_
        by_cases hi : i < ys.length
        · obtain ⟨z, hz, hy⟩ := r i _ (List.getElem?_eq_getElem hi)
          rw [List.getElem?_eq_getElem hi, hy]
          unfold topsOf
          rw [List.map_map, List.getElem?_map, hz]
          rfl
        · rw [List.getElem?_eq_none (by omega), List.getElem?_eq_none]
          unfold topsOf
          rw [List.length_map, List.length_map, ← aa.1]
          omega
      rw [e2] at e
      exact q H2 D nD (s2.trans hid_same) e
end

end Fb

namespace Fb
open PySem PySem.Spec PyProof.Rows L2
section
variable {P : Program} {w : World} {K : PySem.W.Frag} {mg : Str → Option Value} {base : Heap}
def spSum (C : Addr) : Sp := fun vs H Q _ => ∃ (v : V) (qs : List Rat) (n N : Nat), vs = [v] ∧ IsShares C H v qs ∧ Few n N qs ∧ n ≤ 8000 ∧ ∀ H' r, Same H H' → IsShare C H' r (rsum qs) → Q r H'
theorem ok_p_sum_of (T : Txt K mg) : FnOk P w K mg base CX0 4 T.f_p_sum_of T.d_p_sum_of ["shares"] (spSum T.c_Share) := by
  refine T.F_p_sum_of.ok sc_p_sum_of (fun vs H Q E h => ?_) (fun cdv A outer s H vs Q E hr h => ?_)
  · obtain ⟨v, qs, n, N, rfl, _⟩ := h
    rfl
  · obtain ⟨v, qs, n, N, rfl, hv, few, n8, q⟩ := h
    refine ⟨_, (pss_cons (ps_set (i := 1) sc_p_sum_of.nd rfl (.inl rfl) (pe_call (ok_p_common_bottom T) (hr.mono (by decide)) (by rfl) T.g_p_common_bottom T.F_p_common_bottom.kp T.b_p_common_bottom .nil pass0 (pa_cons (pv 0) pa_nil)))
 (pss_one (ps_ret (pe_make T.M_Share (ok_m_Share_init T) (hr.mono (by decide)) (by rfl) T.g_Share T.b_m_Share_init .nil pass0 (pa_cons (pe_callB (cr_sum rfl) (by rfl) T.z_sum (by decide +kernel) (pa_cons (pe_call (ok_p_tops_over T) (hr.mono (by decide)) (by rfl) T.g_p_tops_over T.F_p_tops_over.kp T.b_p_tops_over .nil pass0 (pa_cons (pv 1) (pa_cons (pv 0) pa_nil))) pa_nil)) (pa_cons (pv 1) pa_nil)))))), ?_⟩
    have hL := few.all
    have hP := lcmOn_pos qs 1 (by decide)
    refine ⟨_, rfl, _, qs, rfl, hv, hL, ?_⟩
    refine ⟨_, rfl, _, rfl, _, lcmOn 1 qs, qs, n, rfl, hv, few.bd, Nat.le_trans few.len few.most, by omega, few.pos, Nat.lt_of_lt_of_le hL (Nat.pow_le_pow_right (by decide) (by decide)), fun H1 r _ s1 e1 => ?_⟩
    refine ⟨r, topsOf (lcmOn 1 qs) qs, rfl, SqL.of e1, _, rfl, ?_⟩
    refine mk_share (by omega) (log_of (n := 8001) (by decide) (nat_abs hL) (by decide)) fun H' r' sm hr' => ?_
    rw [tops_sum hP qs fun x hx => den_dvd_lcm qs 1 x hx] at hr'
    exact q H' _ (s1.trans sm) hr'
end

end Fb

namespace Fb
open PySem PySem.Spec PyProof.Rows L2
section
variable {P : Program} {w : World} {K : PySem.W.Frag} {mg : Str → Option Value} {base : Heap}
/-! ### the law's well -/
def spWell : Sp := fun vs H Q _ => ∃ c : Int, vs = [.int c] ∧ ∀ a H', H a = none → Same H (hid a H') → WellAt H' a 1099511627776 → Q (.ref a) H'
theorem ok_l_well (T : Txt K mg) : FnOk P w K mg base CX0 1 T.f_l_well T.d_l_well ["_law_cell"] spWell := by
  refine T.F_l_well.ok sc_l_well (fun vs H Q E h => ?_) (fun cdv A outer s H vs Q E hr h => ?_)
  · obtain ⟨c, rfl, _⟩ := h
    rfl
  · obtain ⟨c, rfl, q⟩ := h
    refine ⟨_, (pss_one (ps_ret (pe_lst (pa_cons (pe_op op_mul (pv 0) (pe_callTy call_int1 (by rfl) T.z_int (by decide +kernel) (pa_cons (pe_cmpR op_ge (pv 0) (pe_op op_pow pe_int pe_int) (nomark _)) pa_nil))) (pa_cons (pe_op op_mod (pv 0) pe_int) (pa_cons pe_int pa_nil)))))), ?_⟩
    refine ⟨_, rfl, _, rfl, _, _, rfl, rfl, ⟨by decide, by decide, by decide⟩, _, _, rfl, rfl, .inr ⟨_, rfl, _, _, rfl, rfl, ?_, _, rfl, _, _, rfl, rfl, (by show (0 : Int) < 2147483647; decide), ?_⟩⟩
    · right
      split <;> decide
    · refine ⟨by show 3 ≤ sizeLine; decide, fun p np => ?_⟩
      refine q p _ np (fun b o e => ?_) ⟨_, _, _, upd_same, Int.emod_nonneg _ (by decide), Int.emod_lt_of_pos _ (by decide), by decide, by decide⟩
      rw [hid_upd, hid_ne (ne_of_none e np)]
      exact e
def spDraw : Sp := fun vs H Q _ => ∃ (a : Addr) (m : Int) (n : Nat), vs = [.ref a, .int m] ∧ WellAt H a (n + 1) ∧ 0 < m ∧ m.natAbs.log2 < 9000 ∧
  ∀ d H', 0 ≤ d → d < m → Same (hid a H) (hid a H') → WellAt H' a n → Q (.int d) H'
theorem ok_l_draw (T : Txt K mg) : FnOk P w K mg base CX0 1 T.f_l_draw T.d_l_draw ["_law_well_here", "_law_many"] spDraw := by
  refine T.F_l_draw.ok sc_l_draw (fun vs H Q E h => ?_) (fun cdv A outer s H vs Q E hr h => ?_)
  · obtain ⟨a, m, n, rfl, _⟩ := h
    rfl
  · obtain ⟨a, m, n, rfl, ⟨w0, w1, w2, hw, b1, b2, b3, b4⟩, m0, ml, q⟩ := h
    refine ⟨_, (pss_cons (ps_if (pt_cmpR op_gt (pe_ix ix_list (pv 0) pe_int (fun _ _ => rfl)) pe_int (nomark _))
  (pss_cons (ps_set (i := 2) sc_l_draw.nd rfl (.inl rfl) (pe_op op_mod (pe_ix ix_list (pv 0) pe_int (fun _ _ => rfl)) (pv 1)))
 (pss_cons (ps_asg (pe_op op_fdivW (pe_ix ix_list (pv 0) pe_int (fun _ _ => rfl)) (pv 1)) (pg_sub (pv 0) pe_int set_list))
 (pss_one (ps_ret (pv 2)))))
  pss_nil)
 (pss_cons (ps_asg (pe_op op_add (pe_ix ix_list (pv 0) pe_int (fun _ _ => rfl)) pe_int) (pg_sub (pv 0) pe_int set_list))
 (pss_cons (ps_set (i := 3) sc_l_draw.nd rfl (.inl rfl) (pe_ix ix_list (pe_lst (pa_cons pe_int (pa_cons pe_int (pa_cons pe_int (pa_cons pe_int (pa_cons pe_int (pa_cons pe_int (pa_cons pe_int pa_nil)))))))) (pe_op op_mod (pe_ix ix_list (pv 0) pe_int (fun _ _ => rfl)) pe_int) (fun _ _ => rfl)))
 (pss_cons (ps_set (i := 4) sc_l_draw.nd rfl (.inl rfl) (pe_op op_mod (pe_op op_pow (pe_op op_add (pe_op op_add (pe_ix ix_list (pv 0) pe_int (fun _ _ => rfl)) (pe_op op_mul pe_int (pe_ix ix_list (pv 0) pe_int (fun _ _ => rfl)))) pe_int) pe_int) (pv 3)))
 (pss_cons (ps_set (i := 4) sc_l_draw.nd rfl (.inl rfl) (pe_op op_mod (pe_op op_mul (pe_op op_add (pv 4) (pe_ix ix_list (pv 0) pe_int (fun _ _ => rfl))) (pe_op op_add (pe_op op_fdiv (pv 4) pe_int) pe_int)) (pv 3)))
 (pss_one (ps_ret (pe_op op_mod (pe_op op_fdiv (pv 4) pe_int) (pv 1))))))))), ?_⟩
    refine ⟨_, rfl, a, _, _, _, rfl, rfl, SqL.of hw, atI_nat (j := 0) rfl, _, _, rfl, rfl, _, rfl, ite2 (fun h => ?_) (fun h => ?_)⟩
    · refine ⟨_, rfl, a, _, _, _, rfl, rfl, SqL.of hw, atI_nat (j := 0) rfl, _, rfl, _, _, rfl, rfl, m0, ?_⟩
      refine ⟨_, rfl, a, _, _, _, rfl, rfl, SqL.of hw, atI_nat (j := 0) rfl, _, rfl, _, _, rfl, rfl, ⟨m0, ml⟩, _, rfl, a, _, _, 0, rfl, rfl, hw, rfl, ?_⟩
      refine ⟨_, rfl, ?_⟩
      refine q _ _ (Int.emod_nonneg _ (by omega)) (Int.emod_lt_of_pos _ m0) ?_ ⟨_, _, _, upd_same, b1, b2, b3, by omega⟩
      rw [hid_upd]
      exact Same.refl _
    · refine ⟨_, rfl, a, _, _, _, rfl, rfl, SqL.of hw, atI_nat (j := 2) rfl, _, _, rfl, rfl, _, rfl, a, _, _, 2, rfl, rfl, hw, rfl, ?_⟩
      have hw2 : (upd H a (.lst [.int w0, .int w1, .int (w2 + 1)])) a = some (.lst [.int w0, .int w1, .int (w2 + 1)]) := upd_same
      refine ⟨by show 7 ≤ sizeLine; decide, fun p np => ?_⟩
      have npa : p ≠ a := fun z => by
        rw [z, upd_same] at np
        cases np
      have hw3 : (upd (upd H a (.lst [.int w0, .int w1, .int (w2 + 1)])) p (.lst [V.int 2147483647, V.int 2147483629, V.int 2147483587, V.int 2147483579, V.int 2147483563, V.int 2147483549, V.int 2147483543])) a = some (.lst [.int w0, .int w1, .int (w2 + 1)]) := by
        rw [upd_ne npa.symm]
        exact upd_same
      obtain ⟨pr, hpr, p0, p1⟩ := primes7 (k := (w2 + 1) % 7) (Int.emod_nonneg _ (by decide)) (Int.emod_lt_of_pos _ (by decide))
      refine ⟨_, rfl, a, _, _, _, rfl, rfl, SqL.of hw3, atI_nat (j := 2) rfl, _, _, rfl, rfl, (by show (0 : Int) < 7; decide), p, _, _, _, rfl, rfl, sqL_new, hpr, ?_⟩
      refine ⟨_, rfl, a, _, _, _, rfl, rfl, SqL.of hw3, atI_nat (j := 1) rfl, _, rfl, a, _, _, _, rfl, rfl, SqL.of hw3, atI_nat (j := 2) rfl, _, _, rfl, rfl, .inl ⟨by decide, by decide⟩, _, _, rfl, rfl, _, _, rfl, rfl, _, _, rfl, rfl, ?_, _, rfl, _, _, rfl, rfl, p0, ?_⟩
      · exact pow_small (by omega) (by omega)
      · generalize hx : (w1 + 7919 * (w2 + 1) + 1) ^ (5 : Int).toNat % pr = x
        have x0 : 0 ≤ x := by
          rw [← hx]
          exact Int.emod_nonneg _ (by omega)
        have x1 : x < pr := by
          rw [← hx]
          exact Int.emod_lt_of_pos _ p0
        refine ⟨_, rfl, _, rfl, a, _, _, _, rfl, rfl, SqL.of hw3, atI_nat (j := 2) rfl, _, _, rfl, rfl, _, rfl, _, _, rfl, rfl, ⟨by decide, by decide⟩, _, _, rfl, rfl, _, _, rfl, rfl, .inl ⟨by omega, by omega⟩, _, rfl, _, _, rfl, rfl, p0, ?_⟩
        refine ⟨_, rfl, _, _, rfl, rfl, ⟨by decide, by decide⟩, _, rfl, _, _, rfl, rfl, m0, ?_⟩
        refine q _ _ (Int.emod_nonneg _ (by omega)) (Int.emod_lt_of_pos _ m0) ?_ ⟨_, _, _, hw3, b1, b2, by omega, by omega⟩
        rw [hid_updN npa, hid_upd]
        refine same_upd ?_
        rw [hid_ne npa]
        rw [upd_ne npa] at np
        exact np
def spOne (K : PySem.W.Frag) : Sp := fun vs H Q _ => ∃ (a p : Addr) (xs : List V) (n : Nat), vs = [.ref a, .ref p] ∧ WellAt H a (n + 1) ∧ SqL K (hid a H) p xs ∧ 0 < xs.length ∧ xs.length ≤ 1000 ∧
  ∀ (i : Nat) x H', xs[i]? = some x → Same (hid a H) (hid a H') → WellAt H' a n → Q x H'
theorem log_small {m : Nat} (h : m ≤ 1000) : ((m : Int)).natAbs.log2 < 9000 := by
  have h1 : ((m : Int)).natAbs.log2 ≤ (1000 : Nat).log2 := log2_mono (by omega)
  have h2 : (1000 : Nat).log2 < 9000 := by decide
  omega
theorem ok_l_one (T : Txt K mg) : FnOk P w K mg base CX0 2 T.f_l_one T.d_l_one ["_law_well_here", "_law_some"] (spOne K) := by
  refine T.F_l_one.ok sc_l_one (fun vs H Q E h => ?_) (fun cdv A outer s H vs Q E hr h => ?_)
  · obtain ⟨a, p, xs, n, rfl, _⟩ := h
    rfl
  · obtain ⟨a, p, xs, n, rfl, hw, hS, l0, l1, q⟩ := h
    refine ⟨_, (pss_one (ps_ret (pe_ix ix_list (pv 1) (pe_call (ok_l_draw T) (hr.mono (by decide)) (by rfl) T.g_l_draw T.F_l_draw.kp T.b_l_draw .nil pass0 (pa_cons (pv 0) (pa_cons (pe_callB call_len_seq (by rfl) T.z_len (by decide +kernel) (pa_cons (pv 1) pa_nil)) pa_nil))) (fun _ _ => rfl)))), ?_⟩
    refine ⟨_, rfl, _, rfl, _, rfl, p, xs, rfl, .inl (hid_same.seq hS), a, _, n, rfl, hw, by omega, log_small l1, fun d H' d0 d1 s1 w1 => ?_⟩
    obtain ⟨x, e1, e2⟩ := atI_get d0 d1
    exact ⟨p, xs, d, x, rfl, rfl, (s1.trans hid_same).seq hS, e1, q _ x H' e2 s1 w1⟩
end

end Fb

namespace Fb
open PySem PySem.Spec PyProof.Rows L2
section
variable {P : Program} {w : World} {K : PySem.W.Frag} {mg : Str → Option Value} {base : Heap}
/-! ### the law's own lowest terms -/
def spLow : Sp := fun vs H Q _ => ∃ (t b : Int), vs = [.int t, .int b] ∧ b ≠ 0 ∧ b.natAbs.log2 < 9000 ∧
  ∀ H' r, Same H H' → IsTup2 H' r (Rat.divInt t b).num ((Rat.divInt t b).den : Int) → Q r H'
theorem ok_l_low (T : Txt K mg) : FnOk P w K mg base CX0 1 T.f_l_low T.d_l_low ["_law_top", "_law_bottom"] spLow := by
  refine T.F_l_low.ok sc_l_low (fun vs H Q E h => ?_) (fun cdv A outer s H vs Q E hr h => ?_)
  · obtain ⟨t, b, rfl, _⟩ := h
    rfl
  · obtain ⟨t, b, rfl, hb, hl, q⟩ := h
    refine ⟨_, (pss_cons (ps_par (i := 2) (j := 3) (by rfl) sc_l_low.nd rfl rfl (by decide) rfl rfl (pa_cons (pe_callB call_abs (by rfl) T.z_abs (by decide +kernel) (pa_cons (pv 0) pa_nil)) (pa_cons (pe_callB call_abs (by rfl) T.z_abs (by decide +kernel) (pa_cons (pv 1) pa_nil)) pa_nil)) (by rfl))
 (pss_cons (ps_while PassesOwn.never (pt_cmpR op_gt (pv 3) pe_int (nomark _))
  (pss_one (ps_par (i := 2) (j := 3) (by rfl) sc_l_low.nd rfl rfl (by decide) rfl rfl (pa_cons (pv 3) (pa_cons (pe_op op_mod (pv 2) (pv 3)) pa_nil)) (by rfl))))
 (pss_cons (ps_if (pt_cmpR op_lt (pv 1) pe_int (nomark _))
  (pss_one (ps_set (i := 2) sc_l_low.nd rfl (.inl rfl) (pe_op op_sub pe_int (pv 2))))
  pss_nil)
 (pss_one (ps_ret (pe_tup (pa_cons (pe_op op_fdivZ (pv 0) (pv 2)) (pa_cons (pe_op op_fdivZ (pv 1) (pv 2)) pa_nil)))))))), ?_⟩
    refine ⟨_, rfl, t, rfl, _, rfl, b, rfl, _, _, rfl, ?_⟩
    refine ⟨fun m σ H' => ∃ x y : Int, σ = [some (.int t), some (.int b), some (.int x), some (.int y)] ∧ m = y.toNat ∧ 0 ≤ x ∧ 0 ≤ y ∧ Int.gcd x y = Int.gcd t b ∧ H' = H, ⟨_, (if t < 0 then -t else t), (if b < 0 then -b else b), rfl, rfl, by split <;> omega, by split <;> omega, ?_, rfl⟩, fun m σ H' hW => ?_⟩
    · split <;> split <;> simp [Int.gcd_neg, Int.neg_gcd]
    · obtain ⟨x, y, rfl, rfl, x0, y0, hg, rfl⟩ := hW
      refine ⟨_, rfl, _, _, rfl, rfl, _, rfl, ite2 (fun h => ?_) (fun h => ?_)⟩
      · have hy : 0 < y := of_decide_eq_true h
        refine ⟨fun σ' H'' => σ' = [some (.int t), some (.int b), some (.int y), some (.int (x % y))] ∧ H'' = H', fun σ' H'' h => ?_, ?_⟩
        · obtain ⟨rfl, rfl⟩ := h
          have e1 := Int.emod_nonneg x (Int.ne_of_gt hy)
          have e2 := Int.emod_lt_of_pos x hy
          refine ⟨_, by omega, y, _, rfl, rfl, y0, e1, ?_, rfl⟩
          rw [← hg, ← gcd_step x y, Int.fmod_eq_emod_of_nonneg x y0]
        · exact ⟨_, rfl, _, rfl, _, rfl, _, _, rfl, rfl, hy, _, _, rfl, rfl, rfl⟩
      · have hy : y = 0 := by
          have : ¬ 0 < y := fun z => h (decide_eq_true z)
          omega
        subst hy
        have ex : x = (Int.gcd t b : Int) := by
          rw [← hg, Int.gcd_zero_right]
          omega
        have hd : ∀ i, CDivZ i (cut t b) := fun _ => ⟨cut_ne hb, Nat.lt_of_le_of_lt (log2_mono (cut_le hb)) hl⟩
        refine ⟨_, rfl, _, _, rfl, rfl, _, rfl, ite2 (fun h2 => ?_) (fun h2 => ?_)⟩
        · have h' : b < 0 := of_decide_eq_true h2
          have ec : 0 - x = cut t b := by
            unfold cut
            rw [if_pos h', ex]
            omega
          refine ⟨_, rfl, _, _, rfl, rfl, ?_⟩
          dsimp only
          rw [ec]
          refine ⟨_, rfl, _, rfl, _, _, rfl, rfl, hd _, _, rfl, _, rfl, _, _, rfl, rfl, hd _, by show 2 ≤ sizeLine; decide, fun p np => ?_⟩
          refine q _ _ (same_upd np) ⟨p, rfl, ?_⟩
          dsimp only
          rw [upd_same, cut_top hb, cut_bottom hb]
        · have h' : ¬ b < 0 := fun z => h2 (decide_eq_true z)
          have ec : x = cut t b := by
            unfold cut
            rw [if_neg h', ex]
          rw [ec]
          refine ⟨_, rfl, _, rfl, _, _, rfl, rfl, hd _, _, rfl, _, rfl, _, _, rfl, rfl, hd _, by show 2 ≤ sizeLine; decide, fun p np => ?_⟩
          refine q _ _ (same_upd np) ⟨p, rfl, ?_⟩
          dsimp only
          rw [upd_same, cut_top hb, cut_bottom hb]
end

end Fb

namespace Fb
open PySem PySem.Spec PyProof.Rows L2
section
variable {P : Program} {w : World} {K : PySem.W.Frag} {mg : Str → Option Value} {base : Heap}
/-! ### the law's look at a share -/
def spPair (C : Addr) : Sp := fun vs H Q _ => ∃ (v : V) (z : Rat), vs = [v] ∧ IsShare C H v z ∧ Bd 9000 z ∧ ∀ H' r, Same H H' → IsTup2 H' r z.num (z.den : Int) → Q r H'
theorem ok_l_pair (T : Txt K mg) : FnOk P w K mg base CX0 2 T.f_l_pair T.d_l_pair ["_law_share"] (spPair T.c_Share) := by
  refine T.F_l_pair.ok sc_l_pair (fun vs H Q E h => ?_) (fun cdv A outer s H vs Q E hr h => ?_)
  · obtain ⟨v, z, rfl, _⟩ := h
    rfl
  · obtain ⟨v, z, rfl, ⟨p, dx, rfl, hx⟩, bz, q⟩ := h
    refine ⟨_, (pss_cons (ps_if (PW.pt (pw_or (pt_not (pt_val (pe_callB call_isi (by rfl) T.z_isinstance (by decide +kernel) (pa_cons (pv 0) (pa_cons (pe_glob (v := .ref T.c_Share) (by rfl) T.g_Share rfl) pa_nil))))) (pw_or (pt_val (pe_callB call_isi (by rfl) T.z_isinstance (by decide +kernel) (pa_cons (pe_fld (pv 0) rfl) (pa_cons (pe_bltn (v := .ty "bool") (by rfl) T.z_bool (by decide +kernel) rfl) pa_nil)))) (pw_or1 (pt_val (pe_callB call_isi (by rfl) T.z_isinstance (by decide +kernel) (pa_cons (pe_fld (pv 0) rfl) (pa_cons (pe_bltn (v := .ty "bool") (by rfl) T.z_bool (by decide +kernel) rfl) pa_nil))))))))
  (pss_one (ps_ret (pe_tup (pa_cons pe_int (pa_cons pe_int pa_nil)))))
  pss_nil)
 (pss_cons (ps_if (PW.pt (pw_or (pt_not (pt_val (pe_callB call_isi (by rfl) T.z_isinstance (by decide +kernel) (pa_cons (pe_fld (pv 0) rfl) (pa_cons (pe_bltn (v := .ty "int") (by rfl) T.z_int (by decide +kernel) rfl) pa_nil))))) (pw_or (pt_not (pt_val (pe_callB call_isi (by rfl) T.z_isinstance (by decide +kernel) (pa_cons (pe_fld (pv 0) rfl) (pa_cons (pe_bltn (v := .ty "int") (by rfl) T.z_int (by decide +kernel) rfl) pa_nil))))) (pw_or1 (pt_cmpR op_lt (pe_fld (pv 0) rfl) pe_int (nomark _))))))
  (pss_one (ps_ret (pe_tup (pa_cons pe_int (pa_cons pe_int pa_nil)))))
  pss_nil)
 (pss_one (ps_ret (pe_ifExp (pt_cmpR (op_eqD hr.units) (pe_call (ok_l_low T) (hr.mono (by decide)) (by rfl) T.g_l_low T.F_l_low.kp T.b_l_low .nil pass0 (pa_cons (pe_fld (pv 0) rfl) (pa_cons (pe_fld (pv 0) rfl) pa_nil))) (pe_tup (pa_cons (pe_fld (pv 0) rfl) (pa_cons (pe_fld (pv 0) rfl) pa_nil))) (nomark _)) (pe_tup (pa_cons (pe_fld (pv 0) rfl) (pa_cons (pe_fld (pv 0) rfl) pa_nil))) (pe_tup (pa_cons pe_int (pa_cons pe_int pa_nil)))))))), ?_⟩
    refine ⟨_, rfl, _, _, _, _, true, rfl, .own _, tyShare T hx, T.k_Share, true, rfl, ?_⟩
    refine iteF ?_
    refine ⟨_, rfl, _, _, _, _, _, rfl, hx, T.cl_Share, T.n_Share_top, flds_top _, _, _, _, _, false, rfl, .ty _, .base (.int _), kit_ty (by decide +kernel), false, rfl, ?_⟩
    refine iteF ?_
    refine ⟨_, rfl, _, _, _, _, _, rfl, hx, T.cl_Share, T.n_Share_bottom, flds_bottom _, _, _, _, _, false, rfl, .ty _, .base (.int _), kit_ty (by decide +kernel), false, rfl, ?_⟩
    refine iteF ?_
    refine ⟨_, rfl, _, _, _, _, _, rfl, hx, T.cl_Share, T.n_Share_top, flds_top _, _, _, _, _, true, rfl, .ty _, .base (.int _), kit_ty (by decide +kernel), true, rfl, ?_⟩
    refine iteF ?_
    refine ⟨_, rfl, _, _, _, _, _, rfl, hx, T.cl_Share, T.n_Share_bottom, flds_bottom _, _, _, _, _, true, rfl, .ty _, .base (.int _), kit_ty (by decide +kernel), true, rfl, ?_⟩
    refine iteF ?_
    refine ⟨_, rfl, _, _, _, _, _, rfl, hx, T.cl_Share, T.n_Share_bottom, flds_bottom _, _, _, rfl, rfl, _, rfl, ?_⟩
    have e0 : decide ((z.den : Int) < 1) = false := decide_eq_false (by have := z.den_pos; omega)
    rw [e0]
    refine iteF ?_
    refine ⟨_, rfl, _, _, _, _, _, rfl, hx, T.cl_Share, T.n_Share_top, flds_top _, _, rfl, _, _, _, _, _, rfl, hx, T.cl_Share, T.n_Share_bottom, flds_bottom _, _, _, rfl, den_ne z, log_of (by decide) (den_abs bz) (by decide), fun H1 r s1 h1 => ?_⟩
    rw [divInt_self] at h1
    have hx1 := s1 _ _ hx
    refine ⟨_, rfl, _, _, _, _, _, rfl, hx1, T.cl_Share, T.n_Share_top, flds_top _, _, rfl, _, _, _, _, _, rfl, hx1, T.cl_Share, T.n_Share_bottom, flds_bottom _, by show 2 ≤ sizeLine; decide, fun p2 n2 => ?_⟩
    have s2 := same_upd (o := .tup [.int z.num, .int (z.den : Int)]) n2
    refine ⟨_, _, (h1.mono s2).dp, IsTup2.dp ⟨p2, rfl, upd_same⟩, rfl, rfl, true, ?_, ?_⟩
    · rw [eqv_tup2]
      simp
    · refine iteT ?_
      have hx2 := s2 _ _ hx1
      refine ⟨_, rfl, _, _, _, _, _, rfl, hx2, T.cl_Share, T.n_Share_top, flds_top _, _, rfl, _, _, _, _, _, rfl, hx2, T.cl_Share, T.n_Share_bottom, flds_bottom _, by show 2 ≤ sizeLine; decide, fun p3 n3 => ?_⟩
      exact q _ _ (s1.trans (s2.trans (same_upd n3))) ⟨p3, rfl, upd_same⟩
end

end Fb

namespace Fb
open PySem PySem.Spec PyProof.Rows L2
section
variable {P : Program} {w : World} {K : PySem.W.Frag} {mg : Str → Option Value} {base : Heap}
/-! ### the law's own pairs: added, multiplied, compared, summed; shares made of them -/
def spTwo (f : Rat → Rat → Rat) : Sp := fun vs H Q _ => ∃ (v u : V) (a b c d : Int), vs = [v, u] ∧ IsTup2 H v a b ∧ IsTup2 H u c d ∧ a.natAbs < 2 ^ 4000 ∧ b.natAbs < 2 ^ 4000 ∧ c.natAbs < 2 ^ 4000 ∧ d.natAbs < 2 ^ 4000 ∧ b ≠ 0 ∧ d ≠ 0 ∧
  ∀ H' r, Same H H' → IsPr H' r (f (Rat.divInt a b) (Rat.divInt c d)) → Q r H'
theorem spTwo.mk {f : Rat → Rat → Rat} {v u : V} {x y : Rat} {H : Hp} {Q : VK} {E : XK} (hx : IsPr H v x) (hy : IsPr H u y) (bx : Bd 4000 x) (by_ : Bd 4000 y) (q : ∀ H' r, Same H H' → IsPr H' r (f x y) → Q r H') : spTwo f [v, u] H Q E :=
  ⟨v, u, _, _, _, _, rfl, hx, hy, bx.num, den_abs bx, by_.num, den_abs by_, den_ne _, den_ne _, fun H' r s h => q H' r s (by rw [divInt_self, divInt_self] at h; exact h)⟩
theorem wm4 {x y : Int} (hx : x.natAbs < 2 ^ 4000) (hy : y.natAbs < 2 ^ 4000) : CMulW x y := wide_mul hx hy (by decide) (by decide) (by decide)
theorem ok_l_added (T : Txt K mg) : FnOk P w K mg base CX0 2 T.f_l_added T.d_l_added ["_law_one_here", "_law_other"] (spTwo (· + ·)) := by
  refine T.F_l_added.ok sc_l_added (fun vs H Q E h => ?_) (fun cdv A outer s H vs Q E hr h => ?_)
  · obtain ⟨v, u, a, b, c, d, rfl, _⟩ := h
    rfl
  · obtain ⟨v, u, a, b, c, d, rfl, ⟨p, rfl, hp⟩, ⟨p', rfl, hp'⟩, la, lb, lc, ld, hb, hd, q⟩ := h
    refine ⟨_, (pss_one (ps_ret (pe_call (ok_l_low T) (hr.mono (by decide)) (by rfl) T.g_l_low T.F_l_low.kp T.b_l_low .nil pass0 (pa_cons (pe_op op_add (pe_op op_mulW (pe_ix ix_tup (pv 0) pe_int (fun _ _ => rfl)) (pe_ix ix_tup (pv 1) pe_int (fun _ _ => rfl))) (pe_op op_mulW (pe_ix ix_tup (pv 1) pe_int (fun _ _ => rfl)) (pe_ix ix_tup (pv 0) pe_int (fun _ _ => rfl)))) (pa_cons (pe_op op_mulW (pe_ix ix_tup (pv 0) pe_int (fun _ _ => rfl)) (pe_ix ix_tup (pv 1) pe_int (fun _ _ => rfl))) pa_nil))))), ?_⟩
    refine ⟨_, rfl, p, _, _, _, rfl, rfl, .inl (.inl hp), atI_nat (j := 0) rfl, _, rfl, p', _, _, _, rfl, rfl, .inl (.inl hp'), atI_nat (j := 1) rfl, _, _, rfl, rfl, wm4 la ld,
      _, rfl, p', _, _, _, rfl, rfl, .inl (.inl hp'), atI_nat (j := 0) rfl, _, rfl, p, _, _, _, rfl, rfl, .inl (.inl hp), atI_nat (j := 1) rfl, _, _, rfl, rfl, wm4 lc lb, _, _, rfl, rfl,
      _, rfl, p, _, _, _, rfl, rfl, .inl (.inl hp), atI_nat (j := 1) rfl, _, rfl, p', _, _, _, rfl, rfl, .inl (.inl hp'), atI_nat (j := 1) rfl, _, _, rfl, rfl, wm4 lb ld,
      _, _, rfl, Int.mul_ne_zero hb hd, log_of (by decide) (wide_lt lb ld) (by decide), fun H1 r s1 h1 => q H1 r s1 ?_⟩
    rw [← Rat.divInt_add_divInt a c hb hd] at h1
    exact h1
def spBelow : Sp := fun vs H Q _ => ∃ (v u : V) (x y : Rat), vs = [v, u] ∧ IsPr H v x ∧ IsPr H u y ∧ Bd 4000 x ∧ Bd 4000 y ∧ Q (.bl (decide (x < y))) H
theorem ok_l_below (T : Txt K mg) : FnOk P w K mg base CX0 1 T.f_l_below T.d_l_below ["_law_one_here", "_law_other"] spBelow := by
  refine T.F_l_below.ok sc_l_below (fun vs H Q E h => ?_) (fun cdv A outer s H vs Q E hr h => ?_)
  · obtain ⟨v, u, x, y, rfl, _⟩ := h
    rfl
  · obtain ⟨v, u, x, y, rfl, ⟨p, rfl, hp⟩, ⟨p', rfl, hp'⟩, bx, by_, q⟩ := h
    refine ⟨_, (pss_one (ps_ret (pe_cmpR op_lt (pe_op op_mulW (pe_ix ix_tup (pv 0) pe_int (fun _ _ => rfl)) (pe_ix ix_tup (pv 1) pe_int (fun _ _ => rfl))) (pe_op op_mulW (pe_ix ix_tup (pv 1) pe_int (fun _ _ => rfl)) (pe_ix ix_tup (pv 0) pe_int (fun _ _ => rfl))) (nomark _)))), ?_⟩
    refine ⟨_, rfl, p, _, _, _, rfl, rfl, .inl (.inl hp), atI_nat (j := 0) rfl, _, rfl, p', _, _, _, rfl, rfl, .inl (.inl hp'), atI_nat (j := 1) rfl, _, _, rfl, rfl, wm4 bx.num (den_abs by_),
      _, rfl, p', _, _, _, rfl, rfl, .inl (.inl hp'), atI_nat (j := 0) rfl, _, rfl, p, _, _, _, rfl, rfl, .inl (.inl hp), atI_nat (j := 1) rfl, _, _, rfl, rfl, wm4 by_.num (den_abs bx), _, _, rfl, rfl, ?_⟩
    have e : decide (x.num * (y.den : Int) < y.num * (x.den : Int)) = decide (x < y) := decide_eq_decide.mpr (Rat.lt_iff x y).symm
    dsimp only
    rw [e]
    exact q
def spTotal : Sp := fun vs H Q _ => ∃ (v : V) (qs : List Rat) (n : Nat), vs = [v] ∧ IsPrs H v qs ∧ (∀ q ∈ qs, Bd n q) ∧ (n + 1) * qs.length + 1 ≤ 4000 ∧ n ≤ 4000 ∧ ∀ H' r, Same H H' → IsPr H' r (rsum qs) → Q r H'
theorem ok_l_total (T : Txt K mg) : FnOk P w K mg base CX0 3 T.f_l_total T.d_l_total ["_law_pairs"] spTotal := by
  refine T.F_l_total.ok sc_l_total (fun vs H Q E h => ?_) (fun cdv A outer s H vs Q E hr h => ?_)
  · obtain ⟨v, qs, n, rfl, _⟩ := h
    rfl
  · obtain ⟨v, qs, n, rfl, ⟨p, ws, rfl, hp, aa⟩, bd, hl, hn, q⟩ := h
    refine ⟨_, (pss_cons (ps_set (i := 1) sc_l_total.nd rfl (.inl rfl) (pe_tup (pa_cons pe_int (pa_cons pe_int pa_nil))))
 (pss_cons (ps_for PassesOwn.never rfl (pi_list (pv 0)) (pg_name (i := 2) sc_l_total.nd rfl (.inl rfl))
  (pss_one (ps_set (i := 1) sc_l_total.nd rfl (.inl rfl) (pe_call (ok_l_added T) (hr.mono (by decide)) (by rfl) T.g_l_added T.F_l_added.kp T.b_l_added .nil pass0 (pa_cons (pv 1) (pa_cons (pv 2) pa_nil))))))
 (pss_one (ps_ret (pv 1))))), ?_⟩
    refine ⟨by show 2 ≤ sizeLine; decide, fun p1 n1 => ?_⟩
    have s1 := same_upd (o := .tup [.int 0, .int 1]) n1
    have hp1 := s1 _ _ hp
    refine ⟨_, rfl, p, rfl, ⟨_, SqL.of hp1⟩, for_list (K := K) (a := p) (xs := ws) (fun i σ H' => ∃ f y, σ = [some (.ref p), some f, y] ∧ Same H H' ∧ IsPr H' f (rsum (qs.take i))) ⟨_, _, rfl, s1, p1, rfl, upd_same⟩ (fun i σ H' _ h => ?_) (fun i x σ H' hi h => ?_) (fun σ H' h => ?_)⟩
    · obtain ⟨_, _, _, s', _⟩ := h
      exact SqL.of (s' _ _ hp)
    · obtain ⟨f, y, rfl, s', hf⟩ := h
      obtain ⟨z, hz, hpz⟩ := aa.at hi
      have hz' : z ∈ qs := List.mem_of_getElem? hz
      have bT : Bd 4000 (rsum (qs.take i)) := by
        refine (rsum_bd (n := n) fun z hz => bd z (List.mem_of_mem_take hz)).mono (Nat.le_trans ?_ hl)
        have : (qs.take i).length ≤ qs.length := by rw [List.length_take]; exact Nat.min_le_right _ _
        have := Nat.mul_le_mul_left (n + 1) this
        omega
      refine ⟨_, rfl, _, rfl, spTwo.mk (E := E0) hf (hpz.mono s') bT ((bd z hz').mono hn) fun H2 r s2 h2 => ⟨r, _, rfl, s'.trans s2, ?_⟩⟩
      rw [rsum_take hz]
      exact h2
    · obtain ⟨f, y, rfl, s', hf⟩ := h
      rw [aa.1, List.take_length] at hf
      exact ⟨_, rfl, q H' _ s' hf⟩
/-! ### shares of pairs -/
def spShs (C : Addr) : Sp := fun vs H Q _ => ∃ (v : V) (qs : List Rat), vs = [v] ∧ IsPrs H v qs ∧ (∀ q ∈ qs, Bd 9000 q) ∧ qs.length ≤ 900 ∧ ∀ H' p, H p = none → Same H H' → IsShares C H' (.ref p) qs → Q (.ref p) H'
theorem ok_l_shares (T : Txt K mg) : FnOk P w K mg base CX0 4 T.f_l_shares T.d_l_shares ["_law_pairs"] (spShs T.c_Share) := by
  refine T.F_l_shares.ok sc_l_shares (fun vs H Q E h => ?_) (fun cdv A outer s H vs Q E hr h => ?_)
  · obtain ⟨v, qs, rfl, _⟩ := h
    rfl
  · obtain ⟨v, qs, rfl, ⟨p, ws, rfl, hp, aa⟩, bd, hlen, q⟩ := h
    refine ⟨_, (pss_one (ps_ret (pe_lc (own := [("_law_top", 1), ("_law_bottom", 2)]) (g := (gTup K 2 (gCons (gName 1) (gCons (gName 2) gNil)))) (tt := tYes) (by rfl) sc_l_shares.nd (pi_list (pv 0)) (blkOk_by (own := [("_law_top", 1), ("_law_bottom", 2)]) (N := ["_law_pairs", "_law_top", "_law_bottom"]) (sc := defScope s_l_shares) (by decide +kernel)) (fun _ _ _ _ _ => by exact (pg_tup (by rfl) (pgs_cons (pg_name (i := 1) sc_l_shares.nd rfl (.inl rfl)) (pgs_cons (pg_name (i := 2) sc_l_shares.nd rfl (.inl rfl)) pgs_nil)))) (fun _ _ _ _ _ => by exact pts_nil) (fun _ _ _ _ _ => by exact (pe_make T.M_Share (ok_m_Share_init T) (hr.mono (by decide)) (by rfl) T.g_Share T.b_m_Share_init .nil pass0 (pa_cons (pv 1) (pa_cons (pv 2) pa_nil))))))), ?_⟩
    refine ⟨_, rfl, p, rfl, ⟨_, SqL.of hp⟩, fun D nD => lc_all (K := K) (a := p) (xs := ws) (fun i y G => ∃ z, qs[i]? = some z ∧ IsShare T.c_Share G y z) (fun _ _ _ _ s h => h.elim fun p f => ⟨p, f.1, f.2.mono s⟩) nD (SqL.of hp) (by rw [aa.1]; omega) (fun i x H2 k hi s2 eD hk => ?_) (fun H2 ys s2 e l r => ?_)⟩
    · obtain ⟨z, hz, q7, rfl, h7⟩ := aa.at hi
      have h7 := hid_same _ _ (s2 _ _ h7)
      refine ⟨q7, _, rfl, .inl (.inl h7), rfl, _, _, rfl, _, _, rfl, rfl, rfl, ?_⟩
      refine ⟨_, rfl, _, rfl, ?_⟩
      refine mk_share (den_ne z) (log_of (by decide) (den_abs (bd z (List.mem_of_getElem? hz))) (by decide)) fun H3 r3 s3 h3 => ?_
      rw [divInt_self] at h3
      refine hk _ _ s3 ⟨z, hz, h3.hidL ?_⟩
      obtain ⟨ys', e'⟩ := eD
      exact ⟨ys', s3 _ _ e'⟩
    · refine q H2 D nD (s2.trans hid_same) ⟨D, ys, rfl, e, .of_ix (by rw [l, aa.1]) fun i y hy => ?_⟩
      obtain ⟨z, hz, hi⟩ := r i y hy
      exact ⟨z, hz, hi.mono hid_same⟩
/-! ### tables -/
def IsTbl (R : Hp → V → List Rat → Prop) (H : Hp) (v : V) (qss : List (List Rat)) : Prop := ∃ p vs, v = .ref p ∧ H p = some (.lst vs) ∧ AllAre (R H) vs qss
theorem IsTbl.mono {R : Hp → V → List Rat → Prop} (m : ∀ H H' v qs, Same H H' → R H v qs → R H' v qs) {H H' : Hp} {v : V} {qss : List (List Rat)} (h : IsTbl R H v qss) (s : Same H H') : IsTbl R H' v qss := by
  obtain ⟨p, vs, e, h, a⟩ := h
  exact ⟨p, vs, e, s _ _ h, a.imp fun _ _ r => m _ _ _ _ s r⟩
theorem IsShares.hidN {C : Addr} {H : Hp} {D p : Addr} {qs : List Rat} (hn : p ≠ D) (e : ∃ ys, H D = some (.lst ys)) (h : IsShares C H (.ref p) qs) : IsShares C (Fb.hid D H) (.ref p) qs := by
  obtain ⟨p', vs, e', h, a⟩ := h
  cases e'
  exact ⟨p, vs, rfl, by rw [hid_ne hn]; exact h, a.imp fun _ _ r => r.hidL e⟩
theorem IsPr.hidL {H : Hp} {D : Addr} {v : V} {q : Rat} (e : ∃ ys, H D = some (.lst ys)) (h : IsPr H v q) : IsPr (Fb.hid D H) v q := IsTup2.hidL e h
theorem IsPrs.hidN {H : Hp} {D p : Addr} {qs : List Rat} (hn : p ≠ D) (e : ∃ ys, H D = some (.lst ys)) (h : IsPrs H (.ref p) qs) : IsPrs (Fb.hid D H) (.ref p) qs := by
  obtain ⟨p', vs, e', h, a⟩ := h
  cases e'
  exact ⟨p, vs, rfl, by rw [hid_ne hn]; exact h, a.imp fun _ _ r => r.hidL e⟩
end

end Fb

namespace Fb
open PySem PySem.Spec PyProof.Rows L2
section
variable {P : Program} {w : World} {K : PySem.W.Frag} {mg : Str → Option Value} {base : Heap}
theorem ok_l_by (T : Txt K mg) : FnOk P w K mg base CX0 2 T.f_l_by T.d_l_by ["_law_one_here", "_law_other"] (spTwo (· * ·)) := by
  refine T.F_l_by.ok sc_l_by (fun vs H Q E h => ?_) (fun cdv A outer s H vs Q E hr h => ?_)
  · obtain ⟨v, u, a, b, c, d, rfl, _⟩ := h
    rfl
  · obtain ⟨v, u, a, b, c, d, rfl, ⟨p, rfl, hp⟩, ⟨p', rfl, hp'⟩, la, lb, lc, ld, hb, hd, q⟩ := h
    refine ⟨_, (pss_one (ps_ret (pe_call (ok_l_low T) (hr.mono (by decide)) (by rfl) T.g_l_low T.F_l_low.kp T.b_l_low .nil pass0 (pa_cons (pe_op op_mulW (pe_ix ix_tup (pv 0) pe_int (fun _ _ => rfl)) (pe_ix ix_tup (pv 1) pe_int (fun _ _ => rfl))) (pa_cons (pe_op op_mulW (pe_ix ix_tup (pv 0) pe_int (fun _ _ => rfl)) (pe_ix ix_tup (pv 1) pe_int (fun _ _ => rfl))) pa_nil))))), ?_⟩
    refine ⟨_, rfl, p, _, _, _, rfl, rfl, .inl (.inl hp), atI_nat (j := 0) rfl, _, rfl, p', _, _, _, rfl, rfl, .inl (.inl hp'), atI_nat (j := 0) rfl, _, _, rfl, rfl, wm4 la lc,
      _, rfl, p, _, _, _, rfl, rfl, .inl (.inl hp), atI_nat (j := 1) rfl, _, rfl, p', _, _, _, rfl, rfl, .inl (.inl hp'), atI_nat (j := 1) rfl, _, _, rfl, rfl, wm4 lb ld,
      _, _, rfl, Int.mul_ne_zero hb hd, log_of (by decide) (wide_lt lb ld) (by decide), fun H1 r s1 h1 => q H1 r s1 ?_⟩
    rw [← Rat.divInt_mul_divInt a c] at h1
    exact h1
def spRows (C : Addr) : Sp := fun vs H Q _ => ∃ (v : V) (qss : List (List Rat)), vs = [v] ∧ IsTbl IsPrs H v qss ∧ (∀ qs ∈ qss, qs.length ≤ 900 ∧ ∀ q ∈ qs, Bd 9000 q) ∧ qss.length ≤ 900 ∧ ∀ H' p, H p = none → Same H H' → IsTbl (IsShares C) H' (.ref p) qss → Q (.ref p) H'
theorem ok_l_rows (T : Txt K mg) : FnOk P w K mg base CX0 5 T.f_l_rows T.d_l_rows ["_law_rows_here"] (spRows T.c_Share) := by
  refine T.F_l_rows.ok sc_l_rows (fun vs H Q E h => ?_) (fun cdv A outer s H vs Q E hr h => ?_)
  · obtain ⟨v, qs, rfl, _⟩ := h
    rfl
  · obtain ⟨v, qss, rfl, ⟨p, ws, rfl, hp, aa⟩, bd, hlen, q⟩ := h
    refine ⟨_, (pss_one (ps_ret (pe_lc (own := [("_law_row", 1)]) (g := (gName 1)) (tt := tYes) (by rfl) sc_l_rows.nd (pi_list (pv 0)) (blkOk_by (own := [("_law_row", 1)]) (N := ["_law_rows_here", "_law_row"]) (sc := defScope s_l_rows) (by decide +kernel)) (fun _ _ _ _ _ => by exact (pg_name (i := 1) sc_l_rows.nd rfl (.inl rfl))) (fun _ _ _ _ _ => by exact pts_nil) (fun _ _ _ _ _ => by exact (pe_call (ok_l_shares T) (hr.mono (by decide)) (by rfl) T.g_l_shares T.F_l_shares.kp T.b_l_shares .nil pass0 (pa_cons (pv 1) pa_nil)))))), ?_⟩
    refine ⟨_, rfl, p, rfl, ⟨_, SqL.of hp⟩, fun D nD => lc_all (K := K) (a := p) (xs := ws) (fun i y G => ∃ z, qss[i]? = some z ∧ IsShares T.c_Share G y z) (fun _ _ _ _ s h => h.elim fun p f => ⟨p, f.1, f.2.mono s⟩) nD (SqL.of hp) (by rw [aa.1]; omega) (fun i x H2 k hi s2 eD hk => ?_) (fun H2 ys s2 e l r => ?_)⟩
    · obtain ⟨z, hz, hpz⟩ := aa.at hi
      obtain ⟨lz, bz⟩ := bd z (List.mem_of_getElem? hz)
      refine ⟨rfl, _, rfl, _, z, rfl, hpz.mono (s2.trans hid_same), bz, lz, fun H3 p3 n3 s3 h3 => hk _ _ s3 ⟨z, hz, h3.hidN (fun e => ?_) ?_⟩⟩
      · obtain ⟨ys', e'⟩ := eD
        rw [e, e'] at n3
        cases n3
      · obtain ⟨ys', e'⟩ := eD
        exact ⟨ys', s3 _ _ e'⟩
    · refine q H2 D nD (s2.trans hid_same) ⟨D, ys, rfl, e, .of_ix (by rw [l, aa.1]) fun i y hy => ?_⟩
      obtain ⟨z, hz, hi⟩ := r i y hy
      exact ⟨z, hz, hi.mono hid_same⟩
end

end Fb

namespace Fb
open PySem PySem.Spec PyProof.Rows L2
section
variable {P : Program} {w : World} {K : PySem.W.Frag} {mg : Str → Option Value} {base : Heap}
/-! ### the law's heaps -/
def spHeap : Sp := fun vs H Q _ => ∃ (a : Addr) (m : Nat) (n : Nat), vs = [.ref a, .int m] ∧ WellAt H a (n + 40) ∧ 1 ≤ m ∧ m ≤ 12 ∧
  ∀ H' p qs, H p = none → Same (hid a H) (hid a H') → WellAt H' a n → IsPrs (hid a H') (.ref p) qs → qs.length = m → HeapOk qs → Q (.ref p) H'
theorem flat_rep {x : V} : ∀ m : Nat, (List.replicate m [x]).flatten = List.replicate m x
  | 0 => rfl
  | k + 1 => by
    rw [List.replicate_succ, List.flatten_cons, flat_rep k, List.replicate_succ]
    rfl
theorem ok_l_heap (T : Txt K mg) : FnOk P w K mg base CX0 3 T.f_l_heap T.d_l_heap ["_law_well_here", "_law_many"] spHeap := by
  refine T.F_l_heap.ok sc_l_heap (fun vs H Q E h => ?_) (fun cdv A outer s H vs Q E hr h => ?_)
  · obtain ⟨a, m, n, rfl, _⟩ := h
    rfl
  · obtain ⟨a, m, n, rfl, hw, m1, m12, q⟩ := h
    refine ⟨_, (pss_cons (ps_set (i := 2) sc_l_heap.nd rfl (.inl rfl) (pe_call (ok_l_draw T) (hr.mono (by decide)) (by rfl) T.g_l_draw T.F_l_draw.kp T.b_l_draw .nil pass0 (pa_cons (pv 0) (pa_cons pe_int pa_nil))))
 (pss_cons (ps_set (i := 3) sc_l_heap.nd rfl (.inr rfl) (pe_op op_rep (pe_lst (pa_cons pe_int pa_nil)) (pv 1)))
 (pss_cons (ps_for PassesOwn.never rfl (pi_range1 (by rfl) T.z_range (pa_cons (pe_ix ix_list (pe_lst (pa_cons pe_int (pa_cons pe_int (pa_cons pe_int (pa_cons pe_int pa_nil))))) (pv 2) (fun _ _ => rfl)) pa_nil)) (pg_name (i := 4) sc_l_heap.nd rfl (.inl rfl))
  (pss_cons (ps_set (i := 5) sc_l_heap.nd rfl (.inl rfl) (pe_call (ok_l_draw T) (hr.mono (by decide)) (by rfl) T.g_l_draw T.F_l_draw.kp T.b_l_draw .nil pass0 (pa_cons (pv 0) (pa_cons (pv 1) pa_nil))))
 (pss_one (ps_asg (pe_op op_add (pe_op op_add (pe_ix ix_list (pv 3) (pv 5) (fun _ _ => rfl)) pe_int) (pe_call (ok_l_draw T) (hr.mono (by decide)) (by rfl) T.g_l_draw T.F_l_draw.kp T.b_l_draw .nil pass0 (pa_cons (pv 0) (pa_cons pe_int pa_nil)))) (pg_sub (pv 3) (pv 5) set_list)))))
 (pss_cons (ps_if (pt_cmpR op_eq (pv 2) pe_int (nomark _))
  (pss_one (ps_set (i := 3) sc_l_heap.nd rfl (.inr rfl) (pe_lc (own := [("_law_place", 6)]) (g := (gName 6)) (tt := tYes) (by rfl) sc_l_heap.nd (pi_range1 (by rfl) T.z_range (pa_cons (pv 1) pa_nil)) (blkOk_by (own := [("_law_place", 6)]) (N := ["_law_well_here", "_law_many", "_law_way", "_law_weights", "_law_k", "_law_at", "_law_place", "_law_weight"]) (sc := defScope s_l_heap) (by decide +kernel)) (fun _ _ _ _ _ => by exact (pg_name (i := 6) sc_l_heap.nd rfl (.inl rfl))) (fun _ _ _ _ _ => by exact pts_nil) (fun _ _ _ _ _ => by exact (pe_call (ok_l_draw T) (hr.mono (by decide)) (by rfl) T.g_l_draw T.F_l_draw.kp T.b_l_draw .nil pass0 (pa_cons (pv 0) (pa_cons pe_int pa_nil)))))))
  pss_nil)
 (pss_cons (ps_if (pt_cmpR op_eq (pe_callB (cr_sum rfl) (by rfl) T.z_sum (by decide +kernel) (pa_cons (pv 3) pa_nil)) pe_int (nomark _))
  (pss_one (ps_asg pe_int (pg_sub (pv 3) (pe_call (ok_l_draw T) (hr.mono (by decide)) (by rfl) T.g_l_draw T.F_l_draw.kp T.b_l_draw .nil pass0 (pa_cons (pv 0) (pa_cons (pv 1) pa_nil))) set_list)))
  pss_nil)
 (pss_one (ps_ret (pe_lc (own := [("_law_weight", 7)]) (g := (gName 7)) (tt := tYes) (by rfl) sc_l_heap.nd (pi_list (pv 3)) (blkOk_by (own := [("_law_weight", 7)]) (N := ["_law_well_here", "_law_many", "_law_way", "_law_weights", "_law_k", "_law_at", "_law_place", "_law_weight"]) (sc := defScope s_l_heap) (by decide +kernel)) (fun _ _ _ _ _ => by exact (pg_name (i := 7) sc_l_heap.nd rfl (.inl rfl))) (fun _ _ _ _ _ => by exact pts_nil) (fun _ _ _ _ _ => by exact (pe_call (ok_l_low T) (hr.mono (by decide)) (by rfl) T.g_l_low T.F_l_low.kp T.b_l_low .nil pass0 (pa_cons (pv 7) (pa_cons (pe_callB (cr_sumK (K := K) rfl rfl) (by rfl) T.z_sum (by decide +kernel) (pa_cons (pv 3) pa_nil)) pa_nil)))))))))))), ?_⟩
    have lm : ((m : Nat) : Int).natAbs.log2 < 9000 := log_small (by omega)
    refine ⟨_, rfl, a, 4, n + 39, rfl, hw, by decide, log_small (m := 4) (by decide), fun way H1 y0 y4 s1 w1 => ?_⟩
    -- the noughts
    refine ⟨by show 1 ≤ sizeLine; decide, fun p2 n2 => ?_⟩
    obtain ⟨w2, s2⟩ := well_new (o := .lst [.int 0]) w1 n2
    refine ⟨_, rfl, p2, m, _, rfl, rfl, upd_same, by omega, by omega, ?_, fun pw nw => ?_⟩
    · show 1 * ((m : Nat) : Int).toNat ≤ sizeLine
      rw [Int.toNat_natCast, Nat.one_mul]
      exact Nat.le_of_lt (small1000 (by omega))
    have eN : (List.replicate ((m : Nat) : Int).toNat [V.int 0]).flatten = (List.replicate m (0 : Int)).map V.int := by
      rw [Int.toNat_natCast, List.map_replicate]
      exact flat_rep m
    rw [eN]
    obtain ⟨w3, s3⟩ := well_new (o := .lst ((List.replicate m (0 : Int)).map V.int)) w2 nw
    have W0 : WtAt H a m 0 (n + 39) pw (List.replicate m 0) (upd (upd H1 p2 (.lst [.int 0])) pw (.lst ((List.replicate m (0 : Int)).map V.int))) := by
      have ne := w2.ne nw
      refine ⟨none_back (s1.trans s2) w2 nw, ne, upd_same, List.length_replicate, fun x hx => ?_, ?_, w3⟩
      · rw [(List.mem_replicate.mp hx).2]
        decide
      · rw [hid2_upd ne]
        intro b o e
        have hb : b ≠ pw := fun z => by
          have := none_back (s1.trans s2) w2 nw
          rw [z, hid_ne ne, this] at e
          cases e
        rw [hid_ne hb]
        exact (s1.trans s2) _ _ e
    generalize upd (upd H1 p2 (.lst [.int 0])) pw (.lst ((List.replicate m (0 : Int)).map V.int)) = H3 at W0
    -- how many places
    refine ⟨by show 4 ≤ sizeLine; decide, fun p4 n4 => ?_⟩
    obtain ⟨w4, s4⟩ := well_new (o := .lst [.int 1, .int 2, .int 3, .int 0]) W0.well n4
    have W4 := W0.step s4 w4
    obtain ⟨c, hc, c0, c3⟩ : ∃ c : Int, atI [V.int 1, V.int 2, V.int 3, V.int 0] way = some (.int c) ∧ 0 ≤ c ∧ c ≤ 3 := by
      have : way = 0 ∨ way = 1 ∨ way = 2 ∨ way = 3 := by omega
      rcases this with e | e | e | e <;> subst e <;> exact ⟨_, rfl, by decide, by decide⟩
    refine ⟨_, rfl, p4, _, _, _, rfl, rfl, sqL_new, hc, c, rfl, by omega, by omega, for_range (fun i σ H' => ∃ ns z4 z5 z6 z7, σ = [some (.ref a), some (.int m), some (.int way), some (.ref pw), z4, z5, z6, z7] ∧ WtAt H a m (10 * i) (n + 39 - 2 * i) pw ns H') ⟨_, _, _, _, _, rfl, W4⟩ (fun i σ H' hi h => ?_) (fun σ H' h => ?_)⟩
    · obtain ⟨ns, z4, z5, z6, z7, rfl, Wi⟩ := h
      have hi3 : i < 3 := by omega
      refine ⟨_, rfl, _, rfl, a, m, n + 39 - 2 * i - 1, rfl, Wi.well.mono (by omega), by omega, lm, fun d H5 d0 d1 s5 w5 => ?_⟩
      have W5 := Wi.step s5 w5
      have hd : d.toNat < ns.length := by rw [W5.len]; omega
      have eA : atI (ns.map V.int) d = some (.int ns[d.toNat]) := by
        obtain ⟨x, e1, e2⟩ := atI_get (xs := ns.map V.int) (i := d) d0 (by rw [List.length_map, W5.len]; exact d1)
        rw [List.getElem?_map, List.getElem?_eq_getElem hd] at e2
        cases e2
        exact e1
      refine ⟨_, rfl, _, rfl, pw, _, _, _, rfl, rfl, SqL.of W5.at_, eA, _, _, rfl, rfl, _, rfl, a, 9, n + 39 - 2 * i - 2, rfl, W5.well.mono (by omega), by decide, log_small (m := 9) (by decide), fun d9 H6 d90 d91 s6 w6 => ?_⟩
      have W6 := W5.step s6 w6
      have b6 := W6.bd _ (List.getElem_mem hd)
      refine ⟨_, _, rfl, rfl, _, rfl, _, rfl, pw, _, _, d.toNat, rfl, rfl, W6.at_, ?_, ?_⟩
      · unfold ixN
        rw [List.length_map, W6.len, if_pos d0, if_pos d1]
      · refine ⟨ns.set d.toNat (ns[d.toNat] + 1 + d9), _, _, _, _, rfl, ?_⟩
        have := (W6.upB (B' := 10 * ((i + 1 : Nat) : Int)) (by omega)).set d.toNat (v := ns[d.toNat] + 1 + d9) (by omega) (by omega)
        exact ⟨this.new, this.ne, this.at_, this.len, this.bd, this.same, this.well.mono (by omega)⟩
    · obtain ⟨ns, z4, z5, z6, z7, rfl, Wi⟩ := h
      have Wi : WtAt H a m 40 (n + 30) pw ns H' := by
        have := Wi.upB (B' := 40) (by omega)
        exact ⟨this.new, this.ne, this.at_, this.len, this.bd, this.same, this.well.mono (by omega)⟩
      refine ⟨_, rfl, rfl, _, rfl, ite_mid (fun σ H' => ∃ pw ns z4 z5 z6 z7, σ = [some (.ref a), some (.int m), some (.int way), some (.ref pw), z4, z5, z6, z7] ∧ WtAt H a m 40 (n + 5) pw ns H') (fun _ fin => ?_) (fun _ => ⟨pw, ns, _, _, _, _, rfl, Wi.step (Same.refl _) (Wi.well.mono (by omega))⟩) (fun σ H7 h => ?_)⟩
      · refine ⟨_, rfl, m, rfl, by omega, by omega, fun D nD => lc_wellR (a := a) (fun y _ => ∃ d : Int, y = .int d ∧ 0 ≤ d ∧ d < 12) (fun _ _ _ _ h => h) 1 (n + 5) nD (Wi.well.mono (by omega)) (by omega) (fun i5 H12 k5 k hi w12 s12 eD hk => ?_) (fun H12 ys s12 w12 e12 l12 r12 => ?_)⟩
        · refine ⟨rfl, _, rfl, a, 12, k5, rfl, w12, by decide, log_small (m := 12) (by decide), fun d H13 d0 d1 s13 w13 => hk _ _ s13 w13 ⟨d, rfl, d0, d1⟩⟩
        · obtain ⟨ds, hds⟩ := allAre_of (R := fun y d => y = V.int d ∧ 0 ≤ d ∧ d < 12) r12
          have ey : ys = ds.map V.int := by
            refine List.ext_getElem? fun j => ?_
            rw [List.getElem?_map]
            cases e : ys[j]? with
            | none =>
              have : ds.length ≤ j := by rw [← hds.1]; exact List.getElem?_eq_none_iff.mp e
              rw [List.getElem?_eq_none_iff.mpr this]
              rfl
            | some y =>
              obtain ⟨d, hd, rfl, _⟩ := hds.at e
              rw [hd]
              rfl
          have nDa := Wi.well.ne nD
          refine fin _ _ ⟨D, ds, _, _, _, _, rfl, ?_, nDa, by rw [← ey]; exact e12, by rw [← hds.1, l12]; omega, fun x hx => ?_, ?_, w12⟩
          · cases e : H D with
            | none => rfl
            | some o =>
              have := (Wi.same.trans hid_same) D o (by rw [hid_ne nDa]; exact e)
              rw [hid_ne nDa, nD] at this
              cases this
          · obtain ⟨y, _, h0, h1⟩ := hds.mem hx
            omega
          · exact (Wi.same.trans hid_same).trans s12
      · obtain ⟨pw, ns, z4, z5, z6, z7, rfl, W7⟩ := h
        refine ⟨_, rfl, pw, ns, rfl, SqL.of W7.at_, rfl, _, rfl, ite_mid (fun σ H' => ∃ ns z4 z5 z6 z7, σ = [some (.ref a), some (.int m), some (.int way), some (.ref pw), z4, z5, z6, z7] ∧ WtAt H a m 40 n pw ns H' ∧ 0 < ns.sum) (fun _ fin => ?_) (fun h0 => ?_) (fun σ H8 h => ?_)⟩
        · refine ⟨_, rfl, _, rfl, _, rfl, a, m, n, rfl, W7.well.mono (by omega), by omega, lm, fun d H9 d0 d1 s9 w9 => ?_⟩
          have W9 := W7.step s9 w9
          refine ⟨pw, _, _, d.toNat, rfl, rfl, W9.at_, ?_, ?_⟩
          · unfold ixN
            rw [List.length_map, W9.len, if_pos d0, if_pos d1]
          · have W10 := W9.set d.toNat (v := 1) (by decide) (by decide)
            refine fin _ _ ⟨_, _, _, _, _, rfl, W10, ?_⟩
            have hd : d.toNat < ns.length := by rw [W9.len]; omega
            have := sum_ge (fun x hx => (W10.bd x hx).1) (List.mem_set (a := (1 : Int)) hd)
            omega
        · refine ⟨ns, _, _, _, _, rfl, W7.step (Same.refl _) (W7.well.mono (by omega)), ?_⟩
          have := sum_nn fun x hx => (W7.bd x hx).1
          have : ns.sum ≠ 0 := fun z => h0 (decide_eq_true (by rw [z]))
          omega
        · obtain ⟨ns, z4, z5, z6, z7, rfl, W8, h0⟩ := h
          have S1 : ns.sum ≤ 12 * 40 := by
            have := sum_le fun x hx => (W8.bd x hx).2
            have := W8.len
            omega
          refine ⟨_, rfl, pw, rfl, ⟨_, SqL.of W8.at_⟩, fun D nD => lc_all (K := K) (a := pw) (xs := ns.map V.int) (fun i y G => ∃ z, (ns.map fun x => Rat.divInt x ns.sum)[i]? = some z ∧ IsPr G y z) (fun _ _ _ _ s h => h.elim fun p f => ⟨p, f.1, f.2.mono s⟩) nD (SqL.of W8.at_) (by rw [List.length_map, W8.len]; omega) (fun i x H9 k hi s9 eD hk => ?_) (fun H9 ys s9 e9 l9 r9 => ?_)⟩
          · rw [List.getElem?_map] at hi
            obtain ⟨t, ht, rfl⟩ := Option.map_eq_some_iff.mp hi
            have at9 := hid_same _ _ (s9 _ _ W8.at_)
            refine ⟨rfl, _, rfl, _, rfl, pw, ns, rfl, SqL.of at9, t, ns.sum, rfl, by omega, ?_, fun H10 r10 s10 h10 => ?_⟩
            · have e : ns.sum = ((ns.sum.toNat : Nat) : Int) := by omega
              rw [e]
              exact log_small (by omega)
            · refine hk _ _ s10 ⟨_, by rw [List.getElem?_map, ht]; rfl, IsTup2.hidL ?_ h10⟩
              obtain ⟨ys', e'⟩ := eD
              exact ⟨ys', s10 _ _ e'⟩
          · have nDa := W8.well.ne nD
            have w9 := W8.well.same (s9.trans hid_same)
            refine q H9 D _ ?_ ((W8.same.trans hid_same).trans (hid_mono (s9.trans hid_same))) w9 ⟨D, ys, rfl, by rw [hid_ne nDa]; exact e9, .of_ix (by rw [l9, List.length_map, List.length_map]) fun i y hy => ?_⟩ (by rw [List.length_map, W8.len]) (heap_ok W8.bd h0 (by rw [W8.len]; exact m12) (by decide))
            · cases e : H D with
              | none => rfl
              | some o =>
                have := (W8.same.trans hid_same) D o (by rw [hid_ne nDa]; exact e)
                rw [hid_ne nDa, nD] at this
                cases this
            · obtain ⟨z, hz, hi⟩ := r9 i y hy
              exact ⟨z, hz, IsTup2.hid w9 (hi.mono hid_same)⟩
end

end Fb

namespace Fb
open PySem PySem.Spec PyProof.Rows L2
section
variable {P : Program} {w : World} {K : PySem.W.Frag} {mg : Str → Option Value} {base : Heap}
/-! ### rows and tables of anything -/
def odd (v : V) : Prop := v = .int 0 ∨ v = .non ∨ v = .str "0" ∨ v = .bl true
def IsMd (C : Addr) (H : Hp) (v : V) : Option Rat → Prop
  | some q => IsShare C H v q
  | none => odd v
theorem IsMd.mono {C : Addr} {H H' : Hp} {v : V} {o : Option Rat} (s : Same H H') (h : IsMd C H v o) : IsMd C H' v o := by
  cases o with
  | none => exact h
  | some q => exact IsShare.mono h s
def IsL {α : Type} (R : Hp → V → α → Prop) (H : Hp) (v : V) (xs : List α) : Prop := ∃ p vs, v = .ref p ∧ H p = some (.lst vs) ∧ AllAre (R H) vs xs
theorem IsL.mono {α : Type} {R : Hp → V → α → Prop} (m : ∀ H H' v x, Same H H' → R H v x → R H' v x) {H H' : Hp} {v : V} {xs : List α} (s : Same H H') (h : IsL R H v xs) : IsL R H' v xs := by
  obtain ⟨p, vs, e, h, a⟩ := h
  exact ⟨p, vs, e, s _ _ h, a.imp fun _ _ r => m _ _ _ _ s r⟩
theorem TyX.mono {K : PySem.W.Frag} {H H' : Hp} {v : V} {t : Value} (s : Same H H') (h : TyX K H v t) : TyX K H' v t := by
  cases h with
  | base h =>
    cases h with
    | non => exact .base .non
    | bl x => exact .base (.bl x)
    | int i => exact .base (.int i)
    | str x => exact .base (.str x)
    | flt x => exact .base (.flt x)
    | lst e => exact .base (.lst (s _ _ e))
    | frz e => exact .base (.frz (s _ _ e))
    | tup e => exact .base (.tup (s _ _ e))
    | dK e => exact .base (.dK (s _ _ e))
    | dT e => exact .base (.dT (s _ _ e))
    | ins e cl ha hn htk hm => exact .base (.ins (s _ _ e) cl ha hn htk hm)
  | byt b => exact .byt b
  | set e => exact .set (s _ _ e)
  | kList e c => exact .kList e c
  | kTuple e c => exact .kTuple e c
  | kDict e c => exact .kDict e c
  | fTuple e => exact .fTuple (s _ _ e)
  | fDict e => exact .fDict (s _ _ e)
def NoList (K : PySem.W.Frag) (H : Hp) (v : V) : Prop := ∃ t, TyX K H v t ∧ PySem.W.kitOne K t (.type "list") = some false
abbrev Row := Option (List (Option Rat))
def IsRw (K : PySem.W.Frag) (C : Addr) (H : Hp) (v : V) : Row → Prop
  | some its => IsL (IsMd C) H v its
  | none => NoList K H v
theorem IsRw.mono {K : PySem.W.Frag} {C : Addr} {H H' : Hp} {v : V} {r : Row} (s : Same H H') (h : IsRw K C H v r) : IsRw K C H' v r := by
  cases r with
  | none =>
    obtain ⟨t, ty, k⟩ := h
    exact ⟨t, TyX.mono s ty, k⟩
  | some its => exact IsL.mono (R := IsMd C) (fun _ _ _ _ s h => IsMd.mono s h) s h
def shOk (its : List (Option Rat)) (m : Nat) : Bool := decide (its.length = m) && its.all Option.isSome
def nnOk (o : Option Rat) : Bool := decide (0 ≤ o.getD 0)
def amOk (its : List (Option Rat)) (m : Nat) : Bool := shOk its m && its.all nnOk
def onRow (f : List (Option Rat) → Nat → Bool) (m : Nat) : Row → Bool
  | some its => f its m
  | none => false
def spRow (K : PySem.W.Frag) (C : Addr) (f : List (Option Rat) → Nat → Bool) : Sp := fun vs H Q _ => ∃ (v : V) (m : Nat) (r : Row), vs = [v, .int m] ∧ IsRw K C H v r ∧ (∀ its, r = some its → its.length ≤ 900) ∧ ∀ H', Same H H' → Q (.bl (onRow f m r)) H'
theorem bools_of {α : Type} {ys : List V} {xs : List α} {f : α → Bool} (l : ys.length = xs.length) (h : ∀ (i : Nat) y, ys[i]? = some y → ∃ x, xs[i]? = some x ∧ y = .bl (f x)) : ys = (xs.map f).map V.bl := by
  refine List.ext_getElem? fun i => ?_
  by_cases hi : i < ys.length
  · obtain ⟨x, hx, e⟩ := h i _ (List.getElem?_eq_getElem hi)
    rw [List.getElem?_eq_getElem hi, e, List.map_map, List.getElem?_map, hx]
    rfl
  · rw [List.getElem?_eq_none (by omega), List.getElem?_eq_none (by rw [List.length_map, List.length_map]; omega)]
theorem all_map_id {α : Type} (xs : List α) (f : α → Bool) : (xs.map f).all id = xs.all f := by
  rw [List.all_map]
  rfl
theorem ok_p_are_shares (T : Txt K mg) : FnOk P w K mg base CX0 1 T.f_p_are_shares T.d_p_are_shares ["thing", "many"] (spRow K T.c_Share shOk) := by
  refine T.F_p_are_shares.ok sc_p_are_shares (fun vs H Q E h => ?_) (fun cdv A outer s H vs Q E hr h => ?_)
  · obtain ⟨v, m, r, rfl, _⟩ := h
    rfl
  · obtain ⟨v, m, r, rfl, hv, hlen, q⟩ := h
    refine ⟨_, (pss_one (ps_ret (pe_and (pe_callB call_isi (by rfl) T.z_isinstance (by decide +kernel) (pa_cons (pv 0) (pa_cons (pe_bltn (v := .ty "list") (by rfl) T.z_list (by decide +kernel) rfl) pa_nil))) (pe_and (pe_cmpR op_eq (pe_callB call_len_seq (by rfl) T.z_len (by decide +kernel) (pa_cons (pv 0) pa_nil)) (pv 1) (nomark _)) (pe_one (pe_callB (cr_all rfl) (by rfl) T.z_all (by decide +kernel) (pa_cons (pe_lc (own := [("each", 2)]) (g := (gName 2)) (tt := tYes) (by rfl) sc_p_are_shares.nd (pi_list (pv 0)) (blkOk_by (own := [("each", 2)]) (N := ["thing", "many", "each"]) (sc := defScope s_p_are_shares) (by decide +kernel)) (fun _ _ _ _ _ => by exact (pg_name (i := 2) sc_p_are_shares.nd rfl (.inl rfl))) (fun _ _ _ _ _ => by exact pts_nil) (fun _ _ _ _ _ => by exact (pe_callB (call_isiK (K := K) rfl) (by rfl) T.z_isinstance (by decide +kernel) (pa_cons (pv 2) (pa_cons (pe_glob (v := .ref T.c_Share) (by rfl) T.g_Share rfl) pa_nil))))) pa_nil))))))), ?_⟩
    cases r with
    | none =>
      obtain ⟨t, ty, kt⟩ := hv
      exact ⟨_, rfl, _, _, _, _, false, rfl, .ty _, ty, kt, false, rfl, iteF (q H (Same.refl _))⟩
    | some its =>
      obtain ⟨p, ws, rfl, hp, aa⟩ := hv
      refine ⟨_, rfl, _, _, _, _, true, rfl, .ty _, .base (.lst hp), kit_ty (by decide +kernel), true, rfl, iteT ?_⟩
      refine ⟨_, rfl, p, ws, rfl, .inl (SqL.of hp), _, rfl, rfl, _, rfl, ?_⟩
      by_cases hl : its.length = m
      · rw [decide_eq_true (show V.int (ws.length : Int) = V.int (m : Int) by rw [aa.1, hl])]
        refine iteT ?_
        have l9 := hlen its rfl
        refine ⟨_, rfl, p, rfl, ⟨_, SqL.of hp⟩, fun D nD => lc_all (K := K) (a := p) (xs := ws) (fun i y _ => ∃ o, its[i]? = some o ∧ y = .bl o.isSome) (fun _ _ _ _ _ h => h) nD (SqL.of hp) (by rw [aa.1]; omega) (fun i x H2 k hi s2 _ hk => ?_) (fun H2 ys s2 e l r => ?_)⟩
        · obtain ⟨o, ho, hx⟩ := aa.at hi
          have hx := IsMd.mono (s2.trans hid_same) hx
          refine ⟨rfl, ?_⟩
          cases o with
          | some z =>
            obtain ⟨px, dx, rfl, h7⟩ := hx
            exact ⟨_, rfl, _, _, _, _, true, rfl, .own _, tyShare T h7, T.k_Share, hk _ _ (Same.refl _) ⟨_, ho, rfl⟩⟩
          | none =>
            rcases hx with rfl | rfl | rfl | rfl
            · exact ⟨_, rfl, _, _, _, _, false, rfl, .own _, .base (.int 0), T.k_Share_int, hk _ _ (Same.refl _) ⟨_, ho, rfl⟩⟩
            · exact ⟨_, rfl, _, _, _, _, false, rfl, .own _, .base .non, T.k_Share_NoneType, hk _ _ (Same.refl _) ⟨_, ho, rfl⟩⟩
            · exact ⟨_, rfl, _, _, _, _, false, rfl, .own _, .base (.str _), T.k_Share_str, hk _ _ (Same.refl _) ⟨_, ho, rfl⟩⟩
            · exact ⟨_, rfl, _, _, _, _, false, rfl, .own _, .base (.bl true), T.k_Share_bool, hk _ _ (Same.refl _) ⟨_, ho, rfl⟩⟩
        · have e' := bools_of (xs := its) (by rw [l, aa.1]) r
          rw [e'] at e
          refine ⟨D, its.map Option.isSome, rfl, SqL.of e, ?_⟩
          have := q H2 (s2.trans hid_same)
          rw [all_map_id]
          simpa [onRow, shOk, hl] using this
      · rw [decide_eq_false (show ¬ V.int (ws.length : Int) = V.int (m : Int) from fun z => hl (by have := V.int.inj z; rw [← aa.1]; omega))]
        refine iteF ?_
        have := q H (Same.refl _)
        simpa [onRow, shOk, hl] using this
theorem shOk_all {its : List (Option Rat)} {m : Nat} (h : shOk its m = true) : its.length = m ∧ ∀ o ∈ its, ∃ q, o = some q := by
  unfold shOk at h
  rw [Bool.and_eq_true, List.all_eq_true] at h
  exact ⟨of_decide_eq_true h.1, fun o ho => Option.isSome_iff_exists.mp (h.2 o ho)⟩
def ratsOf (r : Row) : List Rat := (r.getD []).map (·.getD 0)
theorem sh_shares {C : Addr} {H : Hp} {v : V} {r : Row} {k : Nat} (h : IsRw K C H v r) (ok : onRow shOk k r = true) : IsShares C H v (ratsOf r) ∧ (ratsOf r).length = k := by
  cases r with
  | none => cases ok
  | some its =>
    obtain ⟨hl, hall⟩ := shOk_all ok
    obtain ⟨p, vs, rfl, e, a⟩ := h
    refine ⟨⟨p, vs, rfl, e, .of_ix (by simp [ratsOf, a.1]) fun i y hy => ?_⟩, by simp [ratsOf, hl]⟩
    obtain ⟨o, ho, hx⟩ := a.at hy
    obtain ⟨q, rfl⟩ := hall o (List.mem_of_getElem? ho)
    exact ⟨q, by simp [ratsOf, ho], hx⟩
theorem sh_bd {n : Nat} {r : Row} {k : Nat} (ok : onRow shOk k r = true) (h : ∀ its, r = some its → ∀ q, some q ∈ its → Bd n q) : ∀ q ∈ ratsOf r, Bd n q := by
  cases r with
  | none => cases ok
  | some its =>
    obtain ⟨_, hall⟩ := shOk_all ok
    intro q hq
    obtain ⟨o, ho, rfl⟩ := List.mem_map.mp hq
    obtain ⟨z, rfl⟩ := hall o ho
    exact h its rfl z ho
end

end Fb

namespace Fb
open PySem PySem.Spec PyProof.Rows L2
section
variable {P : Program} {w : World} {K : PySem.W.Frag} {mg : Str → Option Value} {base : Heap}
theorem ok_p_are_amounts (T : Txt K mg) : FnOk P w K mg base CX0 2 T.f_p_are_amounts T.d_p_are_amounts ["thing", "many"] (spRow K T.c_Share amOk) := by
  refine T.F_p_are_amounts.ok sc_p_are_amounts (fun vs H Q E h => ?_) (fun cdv A outer s H vs Q E hr h => ?_)
  · obtain ⟨v, m, r, rfl, _⟩ := h
    rfl
  · obtain ⟨v, m, r, rfl, hv, hlen, q⟩ := h
    refine ⟨_, (pss_one (ps_ret (pe_and (pe_call (ok_p_are_shares T) (hr.mono (by decide)) (by rfl) T.g_p_are_shares T.F_p_are_shares.kp T.b_p_are_shares .nil pass0 (pa_cons (pv 0) (pa_cons (pv 1) pa_nil))) (pe_one (pe_callB (cr_all rfl) (by rfl) T.z_all (by decide +kernel) (pa_cons (pe_lc (own := [("share", 2)]) (g := (gName 2)) (tt := tYes) (by rfl) sc_p_are_amounts.nd (pi_list (pv 0)) (blkOk_by (own := [("share", 2)]) (N := ["thing", "many", "share"]) (sc := defScope s_p_are_amounts) (by decide +kernel)) (fun _ _ _ _ _ => by exact (pg_name (i := 2) sc_p_are_amounts.nd rfl (.inl rfl))) (fun _ _ _ _ _ => by exact pts_nil) (fun _ _ _ _ _ => by exact (pe_cmpR op_ge (pe_fldK (K := K) rfl (pv 2) rfl) pe_int (nomark _)))) pa_nil)))))), ?_⟩
    refine ⟨_, rfl, _, rfl, v, m, r, rfl, hv, hlen, fun H1 s1 => ⟨_, rfl, ?_⟩⟩
    cases r with
    | none => exact iteF (q H1 s1)
    | some its =>
      show if shOk its m = true then _ else _
      refine ite2 (fun hs => ?_) (fun hs => ?_)
      · obtain ⟨hl, hall⟩ := shOk_all hs
        obtain ⟨p, ws, rfl, hp, aa⟩ := IsRw.mono s1 hv
        have l9 := hlen its rfl
        refine ⟨_, rfl, p, rfl, ⟨_, SqL.of hp⟩, fun D nD => lc_all (K := K) (a := p) (xs := ws) (fun i y _ => ∃ o, its[i]? = some o ∧ y = .bl (nnOk o)) (fun _ _ _ _ _ h => h) nD (SqL.of hp) (by rw [aa.1]; omega) (fun i x H2 k hi s2 _ hk => ?_) (fun H2 ys s2 e l r => ?_)⟩
        · obtain ⟨o, ho, hx⟩ := aa.at hi
          obtain ⟨z, rfl⟩ := hall o (List.mem_of_getElem? ho)
          obtain ⟨px, dx, rfl, h7⟩ := IsMd.mono (s2.trans hid_same) hx
          refine ⟨rfl, _, rfl, _, _, _, _, _, rfl, h7, T.cl_Share, T.n_Share_top, flds_top _, _, _, rfl, rfl, hk _ _ (Same.refl _) ⟨_, ho, congrArg V.bl (decide_eq_decide.mpr ?_)⟩⟩
          exact Rat.num_nonneg
        · have e' := bools_of (xs := its) (by rw [l, aa.1]) r
          rw [e'] at e
          refine ⟨D, its.map nnOk, rfl, SqL.of e, ?_⟩
          have := q H2 (s1.trans (s2.trans hid_same))
          rw [all_map_id]
          simpa [onRow, amOk, hs] using this
      · have hs : shOk its m = false := by simpa using hs
        have := q H1 s1
        simpa [onRow, amOk, hs] using this
def tabOk (rs : List Row) (m k : Nat) : Bool := decide (rs.length = m) && rs.all (onRow amOk k)
def spTable (K : PySem.W.Frag) (C : Addr) : Sp := fun vs H Q _ => ∃ (v : V) (m k : Nat), vs = [v, .int m, .int k] ∧
  ((NoList K H v ∧ ∀ H', Same H H' → Q (.bl false) H') ∨ ∃ rs : List Row, IsL (IsRw K C) H v rs ∧ rs.length ≤ 900 ∧ (∀ r ∈ rs, ∀ its, r = some its → its.length ≤ 900) ∧ ∀ H', Same H H' → Q (.bl (tabOk rs m k)) H')
theorem ok_p_is_table (T : Txt K mg) : FnOk P w K mg base CX0 3 T.f_p_is_table T.d_p_is_table ["thing", "rows", "columns"] (spTable K T.c_Share) := by
  refine T.F_p_is_table.ok sc_p_is_table (fun vs H Q E h => ?_) (fun cdv A outer s H vs Q E hr h => ?_)
  · obtain ⟨v, m, k, rfl, _⟩ := h
    rfl
  · obtain ⟨v, m, k, rfl, h⟩ := h
    refine ⟨_, (pss_one (ps_ret (pe_and (pe_callB call_isi (by rfl) T.z_isinstance (by decide +kernel) (pa_cons (pv 0) (pa_cons (pe_bltn (v := .ty "list") (by rfl) T.z_list (by decide +kernel) rfl) pa_nil))) (pe_and (pe_cmpR op_eq (pe_callB call_len_seq (by rfl) T.z_len (by decide +kernel) (pa_cons (pv 0) pa_nil)) (pv 1) (nomark _)) (pe_one (pe_callB (cr_all rfl) (by rfl) T.z_all (by decide +kernel) (pa_cons (pe_lc (own := [("row", 3)]) (g := (gName 3)) (tt := tYes) (by rfl) sc_p_is_table.nd (pi_list (pv 0)) (blkOk_by (own := [("row", 3)]) (N := ["thing", "rows", "columns", "row"]) (sc := defScope s_p_is_table) (by decide +kernel)) (fun _ _ _ _ _ => by exact (pg_name (i := 3) sc_p_is_table.nd rfl (.inl rfl))) (fun _ _ _ _ _ => by exact pts_nil) (fun _ _ _ _ _ => by exact (pe_call (ok_p_are_amounts T) (hr.mono (by decide)) (by rfl) T.g_p_are_amounts T.F_p_are_amounts.kp T.b_p_are_amounts .nil pass0 (pa_cons (pv 3) (pa_cons (pv 2) pa_nil))))) pa_nil))))))), ?_⟩
    rcases h with ⟨⟨t, ty, kt⟩, q⟩ | ⟨rs, ⟨p, ws, rfl, hp, aa⟩, l9, hlen, q⟩
    · exact ⟨_, rfl, _, _, _, _, false, rfl, .ty _, ty, kt, false, rfl, iteF (q H (Same.refl _))⟩
    · refine ⟨_, rfl, _, _, _, _, true, rfl, .ty _, .base (.lst hp), kit_ty (by decide +kernel), true, rfl, iteT ?_⟩
      refine ⟨_, rfl, p, ws, rfl, .inl (SqL.of hp), _, rfl, rfl, _, rfl, ?_⟩
      by_cases hl : rs.length = m
      · rw [decide_eq_true (show V.int (ws.length : Int) = V.int (m : Int) by rw [aa.1, hl])]
        refine iteT ?_
        refine ⟨_, rfl, p, rfl, ⟨_, SqL.of hp⟩, fun D nD => lc_all (K := K) (a := p) (xs := ws) (fun i y _ => ∃ o, rs[i]? = some o ∧ y = .bl (onRow amOk k o)) (fun _ _ _ _ _ h => h) nD (SqL.of hp) (by rw [aa.1]; omega) (fun i x H2 kk hi s2 _ hk => ?_) (fun H2 ys s2 e l r => ?_)⟩
        · obtain ⟨o, ho, hx⟩ := aa.at hi
          exact ⟨rfl, _, rfl, _, rfl, _, k, o, rfl, IsRw.mono (s2.trans hid_same) hx, hlen o (List.mem_of_getElem? ho), fun H3 s3 => hk _ _ s3 ⟨_, ho, rfl⟩⟩
        · have e' := bools_of (xs := rs) (by rw [l, aa.1]) r
          rw [e'] at e
          refine ⟨D, rs.map (onRow amOk k), rfl, SqL.of e, ?_⟩
          have := q H2 (s2.trans hid_same)
          rw [all_map_id]
          simpa [tabOk, hl] using this
      · rw [decide_eq_false (show ¬ V.int (ws.length : Int) = V.int (m : Int) from fun z => hl (by have := V.int.inj z; rw [← aa.1]; omega))]
        refine iteF ?_
        have := q H (Same.refl _)
        simpa [tabOk, hl] using this
end

end Fb

namespace Fb
open PySem PySem.Spec PyProof.Rows L2
section
variable {P : Program} {w : World} {K : PySem.W.Frag} {mg : Str → Option Value} {base : Heap}
/-! ### joined -/
def rowAt (qss : List (List Rat)) (i : Nat) : List Rat := qss.getD i []
theorem rowAt_of {qss : List (List Rat)} {i : Nat} {qs : List Rat} (h : qss[i]? = some qs) : rowAt qss i = qs := by
  unfold rowAt
  rw [List.getD_eq_getElem?_getD, h]
  rfl
def spJoined (C : Addr) : Sp := fun vs H Q _ => ∃ (v : V) (qss : List (List Rat)), vs = [v] ∧ IsTbl (IsShares C) H v qss ∧ qss.length ≤ 12 ∧ (∀ qs ∈ qss, qs.length ≤ 12) ∧ ∀ H' r, Same H H' → IsShares C H' (.ref r) qss.flatten → Q (.ref r) H'
theorem ok_p_joined (T : Txt K mg) : FnOk P w K mg base CX0 1 T.f_p_joined T.d_p_joined ["rows"] (spJoined T.c_Share) := by
  refine T.F_p_joined.ok sc_p_joined (fun vs H Q E h => ?_) (fun cdv A outer s H vs Q E hr h => ?_)
  · obtain ⟨v, qss, rfl, _⟩ := h
    rfl
  · obtain ⟨v, qss, rfl, ⟨p, ws, rfl, hp, aa⟩, l1, l2, q⟩ := h
    refine ⟨_, (pss_one (ps_ret (pe_lc2 (own := [("row", 1), ("thing", 2)]) (vs1 := [2]) (g := (gName 1)) (tt := tYes) (g1 := (gName 2)) (tt1 := tYes) (by rfl) sc_p_joined.nd (pi_list (pv 0)) (blkOk_by (own := [("row", 1), ("thing", 2)]) (N := ["rows", "row", "thing"]) (sc := defScope s_p_joined) (by decide +kernel)) (by decide) (fun _ _ _ _ _ => by exact (pg_name (i := 1) sc_p_joined.nd rfl (.inl rfl))) (fun _ _ _ _ _ => by exact pts_nil) (fun _ _ _ _ _ => by exact (pi_listK (K := K) rfl (pv 1))) (fun _ _ _ _ _ => by exact (pg_name (i := 2) sc_p_joined.nd rfl (.inl rfl))) (fun _ _ _ _ _ => by exact pts_nil) (fun _ _ _ _ _ => by exact (pv 2))))), ?_⟩
    have lw : ws.length = qss.length := aa.1
    refine ⟨_, rfl, p, rfl, ⟨_, SqL.of hp⟩, fun D nD => lc2_all (walk_list (K := K) (a := p) (xs := ws)) (fun i => (rowAt qss i).length) (fun i j y G => ∃ z, (rowAt qss i)[j]? = some z ∧ IsShare T.c_Share G y z) (fun _ _ _ _ _ s h => h.elim fun z f => ⟨z, f.1, f.2.mono s⟩) 12 (fun i hi => ?_) (by omega) nD (fun H' s => s.seq (SqL.of hp)) (fun i x H2 H3 kk hi s2 eD y hk => ?_) (fun H2 bs s2 e l r => ?_)⟩
    · have : i < qss.length := by omega
      rw [rowAt_of (List.getElem?_eq_getElem this)]
      exact l2 _ (List.getElem_mem this)
    · obtain ⟨rfl, hx⟩ := y
      obtain ⟨qs, hqs, pr, rvs, rfl, er, ar⟩ := aa.at hx
      have lr : (rowAt qss i).length = rvs.length := by rw [rowAt_of hqs, ar.1]
      have er2 := s2 _ _ er
      refine ⟨rfl, _, rfl, pr, rfl, ⟨_, SqL.of (hid_same _ _ er2)⟩, hk _ _ _ ⟨Same.refl _, fun H => SqL K H pr rvs, YAt rvs, by rw [lr]; exact walk_list, fun H5 s5 _ => SqL.of (hid_same _ _ (s5 _ _ er2)), fun j x1 H5 H6 k hj s5 eD5 y1 hk1 => ?_⟩⟩
      obtain ⟨rfl, hx1⟩ := y1
      obtain ⟨z, hz, h7⟩ := ar.at hx1
      exact ⟨rfl, _, rfl, hk1 _ _ (Same.refl _) ⟨z, by rw [rowAt_of hqs]; exact hz, h7.mono (s2.trans s5)⟩⟩
    · refine q H2 D (s2.trans hid_same) ⟨D, _, rfl, e, AllAre.flatten (by omega) fun i b xs hb hxs => ?_⟩
      have rb := r i b hb
      rw [rowAt_of hxs] at rb
      exact .of_ix rb.1 fun j y hy => by
        obtain ⟨z, hz, h7⟩ := rb.2 j y hy
        exact ⟨z, hz, h7.mono hid_same⟩
/-! ### weighed, cost_of, brought -/
structure Wgh (qs rs : List Rat) (a b : Nat) : Prop where
  la : lcmOn 1 qs < 2 ^ a
  lb : lcmOn 1 rs < 2 ^ b
  a0 : 0 < a
  b0 : 0 < b
  ab : a + b ≤ 8000
  bq : ∀ q ∈ qs, Bd 4000 q
  br : ∀ q ∈ rs, Bd 4000 q
  lq : qs.length ≤ 900
  lr : rs.length ≤ 900
def spWeighed (C : Addr) : Sp := fun vs H Q _ => ∃ (v u : V) (qs rs : List Rat) (a b : Nat), vs = [v, u] ∧ IsShares C H v qs ∧ IsShares C H u rs ∧ Wgh qs rs a b ∧ ∀ H' r, Same H H' → IsShare C H' r (dot qs rs) → Q r H'
theorem topsOf_lt {L : Nat} {qs : List Rat} {a : Nat} (hL : L < 2 ^ a) (b : ∀ q ∈ qs, Bd 4000 q) {i : Nat} {t : Int} (h : (topsOf L qs)[i]? = some t) : t.natAbs < 2 ^ (4000 + a) := by
  unfold topsOf at h
  rw [List.getElem?_map] at h
  obtain ⟨q, hq, rfl⟩ := Option.map_eq_some_iff.mp h
  exact wide_lt (b q (List.mem_of_getElem? hq)).num (nat_abs (Nat.lt_of_le_of_lt (Nat.div_le_self _ _) hL))
theorem ok_p_weighed (T : Txt K mg) : FnOk P w K mg base CX0 4 T.f_p_weighed T.d_p_weighed ["shares", "others"] (spWeighed T.c_Share) := by
  refine T.F_p_weighed.ok sc_p_weighed (fun vs H Q E h => ?_) (fun cdv A outer s H vs Q E hr h => ?_)
  · obtain ⟨v, u, qs, rs, a, b, rfl, _⟩ := h
    rfl
  · obtain ⟨v, u, qs, rs, a, b, rfl, hv, hu, W, q⟩ := h
    refine ⟨_, (pss_cons (ps_set (i := 2) sc_p_weighed.nd rfl (.inl rfl) (pe_call (ok_p_common_bottom T) (hr.mono (by decide)) (by rfl) T.g_p_common_bottom T.F_p_common_bottom.kp T.b_p_common_bottom .nil pass0 (pa_cons (pv 0) pa_nil)))
 (pss_cons (ps_set (i := 3) sc_p_weighed.nd rfl (.inl rfl) (pe_call (ok_p_common_bottom T) (hr.mono (by decide)) (by rfl) T.g_p_common_bottom T.F_p_common_bottom.kp T.b_p_common_bottom .nil pass0 (pa_cons (pv 1) pa_nil)))
 (pss_cons (ps_setLc (i := 4) (own := [("one", 5), ("other", 6)]) (g := (gTup K 2 (gCons (gName 5) (gCons (gName 6) gNil)))) (tt := tYes) (by rfl) sc_p_weighed.nd rfl rfl (sw_true rfl rfl rfl (by decide +kernel)) (pi_zip (by rfl) T.z_zip (pa_cons (pe_call (ok_p_tops_over T) (hr.mono (by decide)) (by rfl) T.g_p_tops_over T.F_p_tops_over.kp T.b_p_tops_over .nil pass0 (pa_cons (pv 2) (pa_cons (pv 0) pa_nil))) (pa_cons (pe_call (ok_p_tops_over T) (hr.mono (by decide)) (by rfl) T.g_p_tops_over T.F_p_tops_over.kp T.b_p_tops_over .nil pass0 (pa_cons (pv 3) (pa_cons (pv 1) pa_nil))) pa_nil))) (blkOk_by (own := [("one", 5), ("other", 6)]) (N := ["shares", "others", "unit", "grain", "parts", "one", "other"]) (sc := defScope s_p_weighed) (by decide +kernel)) (fun _ _ _ _ _ => by exact (pg_tup (by rfl) (pgs_cons (pg_name (i := 5) sc_p_weighed.nd rfl (.inl rfl)) (pgs_cons (pg_name (i := 6) sc_p_weighed.nd rfl (.inl rfl)) pgs_nil)))) (fun _ _ _ _ _ => by exact pts_nil) (fun _ _ _ _ _ => by exact (pe_op op_mulW (pv 5) (pv 6))))
 (pss_one (ps_ret (pe_make T.M_Share (ok_m_Share_init T) (hr.mono (by decide)) (by rfl) T.g_Share T.b_m_Share_init .nil pass0 (pa_cons (pe_callB (cr_sum rfl) (by rfl) T.z_sum (by decide +kernel) (pa_cons (pv 4) pa_nil)) (pa_cons (pe_op op_mulW (pv 2) (pv 3)) pa_nil)))))))), ?_⟩
    have ab := W.ab
    have a0 := W.a0
    have b0 := W.b0
    have hU := lcmOn_pos qs 1 (by decide)
    have hG := lcmOn_pos rs 1 (by decide)
    have up8 : ∀ {x c : Nat}, x < 2 ^ c → c ≤ 8001 → x < 2 ^ 8001 := fun h l => Nat.lt_of_lt_of_le h (Nat.pow_le_pow_right (by decide) l)
    have up9 : ∀ {x c : Nat}, x < 2 ^ c → c ≤ 9000 → x < 2 ^ 9000 := fun h l => Nat.lt_of_lt_of_le h (Nat.pow_le_pow_right (by decide) l)
    refine ⟨_, rfl, _, qs, rfl, hv, up8 W.la (by omega), ?_⟩
    refine ⟨_, rfl, _, rs, rfl, hu, up8 W.lb (by omega), ?_⟩
    refine ⟨_, rfl, _, rfl, _, lcmOn 1 qs, qs, 4000, rfl, hv, W.bq, by have := W.lq; omega, by decide, by decide, up9 W.la (by omega), fun H1 r1 _ s1 e1 => ?_⟩
    refine ⟨_, rfl, _, rfl, _, lcmOn 1 rs, rs, 4000, rfl, hu.mono s1, W.br, by have := W.lr; omega, by decide, by decide, up9 W.lb (by omega), fun H2 r2 _ s2 e2 => ?_⟩
    have e1' := s2 _ _ e1
    have lqs : ((topsOf (lcmOn 1 qs) qs).map V.int).length = qs.length := by simp [topsOf]
    have lrs : ((topsOf (lcmOn 1 rs) rs).map V.int).length = rs.length := by simp [topsOf]
    refine ⟨r1, r2, _, _, rfl, SqL.of e1', SqL.of e2, fun D nD => lc_allW (walk_zip (K := K) (a := r1) (b := r2) (n := (List.zipWith (· * ·) (topsOf (lcmOn 1 qs) qs) (topsOf (lcmOn 1 rs) rs)).length) (by simp)) (fun i y _ => ∃ t, (List.zipWith (· * ·) (topsOf (lcmOn 1 qs) qs) (topsOf (lcmOn 1 rs) rs))[i]? = some t ∧ y = .int t) (fun _ _ _ _ _ h => h) nD (fun H' s => ⟨s.seq (SqL.of e1'), s.seq (SqL.of e2)⟩) (by have := W.lq; simp [topsOf]; omega) (fun i x H3 H4 k hi s3 eD y hk => ?_) (fun H3 ys s3 e3 l3 r3 => ?_)⟩
    · obtain ⟨T1, x1, x2, rfl, nT, rfl, hx1, hx2⟩ := y
      dsimp only at hx1 hx2
      rw [List.getElem?_map] at hx1 hx2
      obtain ⟨t1, ht1, rfl⟩ := Option.map_eq_some_iff.mp hx1
      obtain ⟨t2, ht2, rfl⟩ := Option.map_eq_some_iff.mp hx2
      refine ⟨T1, _, rfl, .inl (.inl upd_same), rfl, _, _, rfl, _, _, rfl, rfl, rfl, ?_⟩
      refine ⟨_, rfl, _, rfl, _, _, rfl, rfl, wide_mul (topsOf_lt W.la W.bq ht1) (topsOf_lt W.lb W.br ht2) (by omega) (by omega) (by omega), hk _ _ (same_upd nT) ⟨t1 * t2, ?_, rfl⟩⟩
      rw [List.getElem?_zipWith, ht1, ht2]
    · have ey : ys = (List.zipWith (· * ·) (topsOf (lcmOn 1 qs) qs) (topsOf (lcmOn 1 rs) rs)).map V.int := by
        refine List.ext_getElem? fun i => ?_
        by_cases hi : i < ys.length
        · obtain ⟨t, ht, hy⟩ := r3 i _ (List.getElem?_eq_getElem hi)
          rw [List.getElem?_eq_getElem hi, hy, List.getElem?_map, ht]
          rfl
        · rw [List.getElem?_eq_none (by omega), List.getElem?_eq_none (by rw [List.length_map]; omega)]
      rw [ey] at e3
      have lt := wide_lt (nat_abs W.la) (nat_abs W.lb)
      refine ⟨_, rfl, D, _, rfl, SqL.of e3, _, rfl, _, rfl, _, _, rfl, rfl, wide_mul (nat_abs W.la) (nat_abs W.lb) a0 b0 (by omega), ?_⟩
      refine mk_share (Int.mul_ne_zero (by omega) (by omega)) (log_of (by omega) lt (by omega)) fun H' r' sm hr' => ?_
      rw [tops_dot hU hG qs rs (fun x hx => den_dvd_lcm qs 1 x hx) fun x hx => den_dvd_lcm rs 1 x hx] at hr'
      exact q H' _ (s1.trans (s2.trans (s3.trans (hid_same.trans sm)))) hr'
structure TblB (css : List (List Rat)) : Prop where
  len : css.length ≤ 12
  row : ∀ qs ∈ css, qs.length ≤ 12
def spCostOf (C : Addr) : Sp := fun vs H Q _ => ∃ (v u : V) (css pss : List (List Rat)) (a b : Nat), vs = [v, u] ∧ IsTbl (IsShares C) H v css ∧ IsTbl (IsShares C) H u pss ∧ TblB css ∧ TblB pss ∧ Wgh css.flatten pss.flatten a b ∧
  ∀ H' r, Same H H' → IsShare C H' r (dot css.flatten pss.flatten) → Q r H'
theorem tbl_mono {C : Addr} {H H' : Hp} {v : V} {qss : List (List Rat)} (h : IsTbl (IsShares C) H v qss) (s : Same H H') : IsTbl (IsShares C) H' v qss := IsTbl.mono (fun _ _ _ _ s h => h.mono s) h s
theorem ok_p_cost_of (T : Txt K mg) : FnOk P w K mg base CX0 5 T.f_p_cost_of T.d_p_cost_of ["costs", "plan"] (spCostOf T.c_Share) := by
  refine T.F_p_cost_of.ok sc_p_cost_of (fun vs H Q E h => ?_) (fun cdv A outer s H vs Q E hr h => ?_)
  · obtain ⟨v, u, css, pss, a, b, rfl, _⟩ := h
    rfl
  · obtain ⟨v, u, css, pss, a, b, rfl, hv, hu, t1, t2, W, q⟩ := h
    refine ⟨_, (pss_one (ps_ret (pe_call (ok_p_weighed T) (hr.mono (by decide)) (by rfl) T.g_p_weighed T.F_p_weighed.kp T.b_p_weighed .nil pass0 (pa_cons (pe_call (ok_p_joined T) (hr.mono (by decide)) (by rfl) T.g_p_joined T.F_p_joined.kp T.b_p_joined .nil pass0 (pa_cons (pv 0) pa_nil)) (pa_cons (pe_call (ok_p_joined T) (hr.mono (by decide)) (by rfl) T.g_p_joined T.F_p_joined.kp T.b_p_joined .nil pass0 (pa_cons (pv 1) pa_nil)) pa_nil))))), ?_⟩
    refine ⟨_, rfl, _, css, rfl, hv, t1.len, t1.row, fun H1 r1 s1 h1 => ?_⟩
    refine ⟨_, rfl, _, pss, rfl, tbl_mono hu s1, t2.len, t2.row, fun H2 r2 s2 h2 => ?_⟩
    exact ⟨_, _, _, _, a, b, rfl, h1.mono s2, h2, W, fun H3 r3 s3 h3 => q H3 r3 (s1.trans (s2.trans s3)) h3⟩
def spBrought (C : Addr) : Sp := fun vs H Q _ => ∃ (p : Addr) (x y f g : V) (hs ts ps qs : List Rat) (a b c d : Nat), vs = [.ref p, f, g] ∧ H p = some (.tup [x, y]) ∧ IsShares C H x hs ∧ IsShares C H y ts ∧ IsShares C H f ps ∧ IsShares C H g qs ∧ Wgh hs ps a b ∧ Wgh ts qs c d ∧ Bd 4000 (dot hs ps) ∧ Bd 4000 (dot ts qs) ∧
  ∀ H' r, Same H H' → IsShare C H' r (dot hs ps - dot ts qs) → Q r H'
/-! ### are_prices -/
def fits (hs ts : List Rat) (css : List (List Rat)) : Bool := (List.range css.length).all fun i => (List.range (rowAt css i).length).all fun j => decide (at0 hs i - at0 ts j ≤ at0 (rowAt css i) j)
def prB (r1 r2 : Row) (css : List (List Rat)) : Bool := onRow shOk css.length r1 && (onRow shOk (rowAt css 0).length r2 && fits (ratsOf r1) (ratsOf r2) css)
def NoTup (K : PySem.W.Frag) (H : Hp) (v : V) : Prop := ∃ t, TyX K H v t ∧ PySem.W.kitOne K t (.type "tuple") = some false
structure CostB (css : List (List Rat)) (k : Nat) : Prop where
  l0 : 0 < css.length
  l1 : css.length ≤ 12
  k0 : 0 < k
  k1 : k ≤ 12
  row : ∀ qs ∈ css, qs.length = k ∧ ∀ q ∈ qs, Bd 40 q
def RowB (n l : Nat) (r : Row) : Prop := ∀ its, r = some its → its.length ≤ l ∧ ∀ q, some q ∈ its → Bd n q
def spAreP (K : PySem.W.Frag) (C : Addr) : Sp := fun vs H Q _ => ∃ (v u : V) (css : List (List Rat)) (k : Nat), vs = [v, u] ∧ IsTbl (IsShares C) H u css ∧ CostB css k ∧
  ((NoTup K H v ∧ ∀ H', Same H H' → Q (.bl false) H') ∨ (∃ p xs, v = .ref p ∧ H p = some (.tup xs) ∧ xs.length ≠ 2 ∧ ∀ H', Same H H' → Q (.bl false) H') ∨
   ∃ p x y r1 r2, v = .ref p ∧ H p = some (.tup [x, y]) ∧ IsRw K C H x r1 ∧ IsRw K C H y r2 ∧ RowB 60 900 r1 ∧ RowB 60 900 r2 ∧ ∀ H', Same H H' → Q (.bl (prB r1 r2 css)) H')
theorem tops_le {L : Nat} (h0 : 0 < L) {x y c : Rat} (hx : x.den ∣ L) (hy : y.den ∣ L) (hc : c.den ∣ L) :
    (x.num * ((L / x.den : Nat) : Int) - y.num * ((L / y.den : Nat) : Int) ≤ c.num * ((L / c.den : Nat) : Int)) ↔ x - y ≤ c := by
  have ex := tops_one h0 hx
  have ey := tops_one h0 hy
  have ec := tops_one h0 hc
  have e : c - (x - y) = Rat.divInt (c.num * ((L / c.den : Nat) : Int) + (-(x.num * ((L / x.den : Nat) : Int)) + y.num * ((L / y.den : Nat) : Int))) (L : Int) := by
    rw [divInt_add_same, divInt_add_same, ← Rat.neg_divInt, ex, ey, ec]
    grind
  rw [Rat.le_iff_sub_nonneg, e, Rat.divInt_nonneg_iff_of_pos_right (by omega)]
  omega
theorem lcm_prices {hs ts : List Rat} {css : List (List Rat)} {k : Nat} (l1 : hs.length ≤ 12) (l2 : ts.length ≤ 12) (b1 : ∀ q ∈ hs, Bd 60 q) (b2 : ∀ q ∈ ts, Bd 60 q) (cb : CostB css k) : lcmOn 1 (hs ++ ts ++ css.flatten) < 2 ^ 8001 := by
  have h1 := lcmOn_lt hs 1 60 1 (fun q hq => (b1 q hq).den) (by decide)
  have h2 := lcmOn_lt ts _ 60 _ (fun q hq => (b2 q hq).den) h1
  have h3 := lcmOn_lt css.flatten _ 40 _ (fun q hq => by
    obtain ⟨qs, h, hq⟩ := List.mem_flatten.mp hq
    exact ((cb.row qs h).2 q hq).den) h2
  rw [lcmOn_app, lcmOn_app]
  refine Nat.lt_of_lt_of_le h3 (Nat.pow_le_pow_right (by decide) ?_)
  have fl : css.flatten.length ≤ css.length * 12 := by
    have : ∀ l : List (List Rat), (∀ qs ∈ l, qs.length ≤ 12) → l.flatten.length ≤ l.length * 12 := fun l => by
      induction l with
      | nil => intro _; simp
      | cons b r ih =>
        intro h
        have h1 := h b List.mem_cons_self
        have h2 := ih fun q hq => h q (List.mem_cons_of_mem _ hq)
        rw [List.flatten_cons, List.length_append, List.length_cons]
        omega
    exact this css fun qs h => by have := (cb.row qs h).1; have := cb.k1; omega
  have := cb.l1
  omega
theorem all_blocks {f : Nat → Nat → Bool} {m : Nat → Nat} : ∀ (n : Nat) (bs : List (List V)), bs.length = n → (∀ (i : Nat) b, bs[i]? = some b → b.length = m i ∧ ∀ (j : Nat) y, b[j]? = some y → y = .bl (f i j)) →
    ∃ ls : List Bool, bs.flatten = ls.map V.bl ∧ ls.all id = (List.range n).all fun i => (List.range (m i)).all (f i) := by
  intro n bs hl h
  refine ⟨((List.range n).map fun i => (List.range (m i)).map (f i)).flatten, ?_, ?_⟩
  · rw [List.map_flatten, List.map_map]
    congr 1
    refine List.ext_getElem? fun i => ?_
    by_cases hi : i < bs.length
    · obtain ⟨lb, hb⟩ := h i _ (List.getElem?_eq_getElem hi)
      rw [List.getElem?_eq_getElem hi, List.getElem?_map, List.getElem?_range (by omega)]
      simp only [Option.map_some, Function.comp_apply, List.map_map]
      congr 1
      refine List.ext_getElem? fun j => ?_
      by_cases hj : j < bs[i].length
      · have := hb j _ (List.getElem?_eq_getElem hj)
        rw [List.getElem?_eq_getElem hj, this, List.getElem?_map, List.getElem?_range (by omega)]
        rfl
      · rw [List.getElem?_eq_none (by omega), List.getElem?_eq_none (by simp; omega)]
    · rw [List.getElem?_eq_none (by omega), List.getElem?_eq_none (by simp; omega)]
  · rw [Bool.eq_iff_iff, List.all_eq_true, List.all_eq_true]
    constructor
    · intro hh i hi
      rw [List.all_eq_true]
      intro j hj
      exact hh _ (List.mem_flatten.mpr ⟨_, List.mem_map.mpr ⟨i, hi, rfl⟩, List.mem_map.mpr ⟨j, hj, rfl⟩⟩)
    · intro hh b hb
      obtain ⟨l, hl', hb⟩ := List.mem_flatten.mp hb
      obtain ⟨i, hi, rfl⟩ := List.mem_map.mp hl'
      obtain ⟨j, hj, rfl⟩ := List.mem_map.mp hb
      have := hh i hi
      rw [List.all_eq_true] at this
      exact this j hj
theorem tops_at {L : Nat} {qs : List Rat} {i : Nat} {q : Rat} (h : qs[i]? = some q) : ((topsOf L qs).map V.int)[i]? = some (.int (q.num * ((L / q.den : Nat) : Int))) := by
  unfold topsOf
  rw [List.map_map, List.getElem?_map, h]
  rfl
end

end Fb

namespace Fb
open PySem PySem.Spec PyProof.Rows L2
section
variable {P : Program} {w : World} {K : PySem.W.Frag} {mg : Str → Option Value} {base : Heap}
theorem RcB.imp {X : Cx} {n : Nat} {op : CmpOp} {g : Bool → Bool} {D D' : EqvB} (h : RcB X n op g D) (i : ∀ x y b H, D' x y b H → D x y b H) : RcB X n op g D' := fun A pins s σ H x y u v b sb I rx ry d => h A pins s σ H x y u v b sb I rx ry (i _ _ _ _ d)
def DSh (C : Addr) : EqvB := fun x y b H => ∃ q r, IsShare C H x q ∧ IsShare C H y r ∧ b = decide (q = r)
theorem isShare_inj {C : Addr} {H : Hp} {v : V} {q r : Rat} (h : IsShare C H v q) (h' : IsShare C H v r) : q = r := by
  obtain ⟨p, dx, rfl, h⟩ := h
  obtain ⟨p', dx', e, h'⟩ := h'
  cases e
  rw [h] at h'
  have := HO.ins.inj (Option.some.inj h')
  have e2 := this.2.2
  have t := flds_top q
  rw [e2, flds_top r] at t
  have b := flds_bottom q
  rw [e2, flds_bottom r] at b
  have t := V.int.inj (Option.some.inj t)
  have b := V.int.inj (Option.some.inj b)
  exact Rat.ext t.symm (by omega)
theorem dsh_refl (C : Addr) : Refl (DSh C) := fun x b H d => by
  obtain ⟨q, r, h, h', rfl⟩ := d
  exact decide_eq_true (isShare_inj h h')
theorem dsh_ref (C : Addr) : ∀ x y b H, DSh C x y b H → ∃ a c, x = .ref a ∧ y = .ref c := fun x y b H d => by
  obtain ⟨q, r, ⟨p, _, e, _⟩, ⟨p', _, e', _⟩, _⟩ := d
  exact ⟨p, p', e, e'⟩
theorem dsh_ins (C : Addr) : ∀ x y b H, DSh C x y b H → DInsB C (spEq K C) x y b H := fun x y b H d => by
  obtain ⟨q, r, h, h', rfl⟩ := d
  obtain ⟨p, dx, rfl, e⟩ := id h
  obtain ⟨p', dx', rfl, e'⟩ := id h'
  exact ⟨p, p', _, _, _, _, rfl, rfl, e, e', _, _, q, rfl, h, .inl ⟨r, h', rfl, rfl⟩⟩
theorem dlist_of {C : Addr} {H : Hp} {v u : V} {qs rs : List Rat} (h : IsShares C H v qs) (h' : IsShares C H u rs) (l : qs.length = rs.length) : DListB (DSh C) v u (decide (qs = rs)) H := by
  obtain ⟨p, vs, rfl, e, a⟩ := h
  obtain ⟨p', vs', rfl, e', a'⟩ := h'
  refine ⟨p, p', vs, vs', rfl, rfl, e, e', by rw [a.1, a'.1, l], fun i => decide (at0 qs i = at0 rs i), fun i x y hx hy => ?_, ?_⟩
  · obtain ⟨z, hz, r⟩ := a.at hx
    obtain ⟨z', hz', r'⟩ := a'.at hy
    exact ⟨z, z', r, r', by show decide (at0 qs i = at0 rs i) = _; rw [at0_of hz, at0_of hz']⟩
  · rw [a.1, Bool.eq_iff_iff, decide_eq_true_iff, List.all_eq_true]
    constructor
    · rintro rfl i _
      simp
    · intro hh
      refine List.ext_getElem l fun i h1 h2 => ?_
      have := of_decide_eq_true (hh i (by simpa using h1))
      rw [at0_of (List.getElem?_eq_getElem h1), at0_of (List.getElem?_eq_getElem h2)] at this
      exact this
end

end Fb

namespace Fb
open PySem PySem.Spec PyProof.Rows L2
section
variable {P : Program} {w : World} {K : PySem.W.Frag} {mg : Str → Option Value} {base : Heap}
def IsIt (H : Hp) (v : V) : Option Rat → Prop
  | some q => IsPr H v q
  | none => odd v
theorem IsIt.mono {H H' : Hp} {v : V} {o : Option Rat} (s : Same H H') (h : IsIt H v o) : IsIt H' v o := by
  cases o with
  | none => exact h
  | some q => exact IsPr.mono h s
abbrev IsPRow (H : Hp) (v : V) (its : List (Option Rat)) : Prop := IsL IsIt H v its
theorem IsPRow.mono {H H' : Hp} {v : V} {its : List (Option Rat)} (s : Same H H') (h : IsPRow H v its) : IsPRow H' v its := IsL.mono (R := IsIt) (fun _ _ _ _ s h => IsIt.mono s h) s h
theorem odd_ty {H : Hp} {v : V} (h : odd v) : ∃ t, TyX K H v (.type t) ∧ kitB t "tuple" = some false := by
  rcases h with rfl | rfl | rfl | rfl
  · exact ⟨"int", .base (.int 0), by decide +kernel⟩
  · exact ⟨"NoneType", .base .non, by decide +kernel⟩
  · exact ⟨"str", .base (.str _), by decide +kernel⟩
  · exact ⟨"bool", .base (.bl true), by decide +kernel⟩
theorem IsMd.hidL {C : Addr} {H : Hp} {D : Addr} {v : V} {o : Option Rat} (e : ∃ ys, H D = some (.lst ys)) (h : IsMd C H v o) : IsMd C (Fb.hid D H) v o := by
  cases o with
  | none => exact h
  | some q => exact IsShare.hidL e h
structure RwAt (H : Hp) (a : Addr) (f : Nat) (pr : Addr) (its : List (Option Rat)) (H' : Hp) : Prop where
  new : H pr = none
  ne : pr ≠ a
  at_ : ∃ vs, H' pr = some (.lst vs) ∧ AllAre (IsIt H') vs its
  same : Same (hid a H) (hid a H')
  well : WellAt H' a f
theorem IsIt.ts {H H' : Hp} {v : V} {o : Option Rat} (s : TS H H') (h : IsIt H v o) : IsIt H' v o := by
  cases o with
  | none => exact h
  | some q => exact IsPr.ts h s
theorem RwAt.keep {H : Hp} {a : Addr} {f f' : Nat} {pr : Addr} {its : List (Option Rat)} {H1 H2 : Hp} (R : RwAt H a f pr its H1) (s : Same (hid a H1) (hid a H2)) (w : WellAt H2 a f') : RwAt H a f' pr its H2 := by
  obtain ⟨vs, e, r⟩ := R.at_
  have t := TS.well R.well s
  refine ⟨R.new, R.ne, ⟨vs, ?_, r.imp fun _ _ h => h.ts t⟩, R.same.trans s, w⟩
  have := s pr _ (by rw [hid_ne R.ne]; exact e)
  rwa [hid_ne R.ne] at this
theorem AllAre.set {α : Type} {R : V → α → Prop} {vs : List V} {xs : List α} {j : Nat} {v : V} {x : α} (h : AllAre R vs xs) (r : R v x) : AllAre R (vs.set j v) (xs.set j x) := by
  refine ⟨by simp [h.1], fun i a b h1 h2 => ?_⟩
  rw [List.getElem?_set] at h1 h2
  by_cases e : j = i
  · subst e
    rw [if_pos rfl] at h1 h2
    split at h1
    · split at h2
      · cases h1
        cases h2
        exact r
      · cases h2
    · cases h1
  · rw [if_neg e] at h1 h2
    exact h.2 i a b h1 h2
theorem RwAt.set {H : Hp} {a : Addr} {f : Nat} {pr : Addr} {its : List (Option Rat)} {H1 : Hp} (R : RwAt H a f pr its H1) {vs : List V} {j : Nat} {v : V} {o : Option Rat} (e : H1 pr = some (.lst vs)) (hv : IsIt H1 v o) : RwAt H a f pr (its.set j o) (upd H1 pr (.lst (vs.set j v))) := by
  obtain ⟨vs', e', r⟩ := R.at_
  rw [e] at e'
  cases e'
  have t : TS H1 (upd H1 pr (.lst (vs.set j v))) := TS.lst e
  refine ⟨R.new, R.ne, ⟨_, upd_same, (AllAre.set r hv).imp fun _ _ h => h.ts t⟩, fun b u eb => ?_, R.well.upd R.ne⟩
  have hb : b ≠ pr := fun z => by
    rw [z, hid_ne R.ne, R.new] at eb
    cases eb
  rw [hid_updN R.ne, upd_ne hb]
  exact R.same b u eb
def ItB (n l : Nat) (its : List (Option Rat)) : Prop := its.length ≤ l ∧ ∀ q, some q ∈ its → Bd n q
theorem ItB.set {n n' l : Nat} {its : List (Option Rat)} {j : Nat} {o : Option Rat} (h : ItB n l its) (hn : n ≤ n') (ho : ∀ q, o = some q → Bd n' q) : ItB n' l (its.set j o) := by
  refine ⟨by rw [List.length_set]; exact h.1, fun q hq => ?_⟩
  rcases List.mem_or_eq_of_mem_set hq with e | e
  · exact (h.2 q e).mono hn
  · exact ho q e.symm
theorem ItB.mono {n n' l l' : Nat} {its : List (Option Rat)} (h : ItB n l its) (hn : n ≤ n') (hl : l ≤ l') : ItB n' l' its := ⟨Nat.le_trans h.1 hl, fun q hq => (h.2 q hq).mono hn⟩
theorem ixn {l : List V} {j : Nat} (hj : j < l.length) : ixN l.length (j : Int) = some j := by
  unfold ixN
  rw [if_pos (by omega), if_pos (by omega), Int.toNat_natCast]
theorem RwAt.get {H : Hp} {a : Addr} {f : Nat} {pr : Addr} {its : List (Option Rat)} {H1 : Hp} (R : RwAt H a f pr its H1) {j : Nat} (hj : j < its.length) : ∃ vs v o, H1 pr = some (.lst vs) ∧ vs.length = its.length ∧ vs[j]? = some v ∧ its[j]? = some o ∧ IsIt H1 v o := by
  obtain ⟨vs, e, r⟩ := R.at_
  have hj' : j < vs.length := by rw [r.1]; exact hj
  obtain ⟨o, ho, h⟩ := r.at (List.getElem?_eq_getElem hj')
  exact ⟨vs, _, o, e, r.1, List.getElem?_eq_getElem hj', ho, h⟩
theorem RwAt.app {H : Hp} {a : Addr} {f : Nat} {pr : Addr} {its : List (Option Rat)} {H1 : Hp} (R : RwAt H a f pr its H1) {vs : List V} {v : V} {o : Option Rat} (e : H1 pr = some (.lst vs)) (hv : IsIt H1 v o) : RwAt H a f pr (its ++ [o]) (upd H1 pr (.lst (vs ++ [v]))) := by
  obtain ⟨vs', e', r⟩ := R.at_
  rw [e] at e'
  cases e'
  have t : TS H1 (upd H1 pr (.lst (vs ++ [v]))) := TS.lst e
  refine ⟨R.new, R.ne, ⟨_, upd_same, (r.snoc hv).imp fun _ _ h => h.ts t⟩, fun b u eb => ?_, R.well.upd R.ne⟩
  have hb : b ≠ pr := fun z => by
    rw [z, hid_ne R.ne, R.new] at eb
    cases eb
  rw [hid_updN R.ne, upd_ne hb]
  exact R.same b u eb
end

end Fb

namespace Fb
open PySem PySem.Spec PyProof.Rows L2
section
variable {P : Program} {w : World} {K : PySem.W.Frag} {mg : Str → Option Value} {base : Heap}
/-! ### the law's costs -/
structure CostN (css : List (List Rat)) (k b : Nat) : Prop where
  b0 : 0 < b
  b1 : b ≤ 12
  row : ∀ qs ∈ css, qs.length = k ∧ ∀ q ∈ qs, Nice b 1000000000 q
theorem divInt_nnK {t : Int} {b : Nat} (h : 0 ≤ t) (b0 : 0 < b) : 0 ≤ Rat.divInt t (b : Int) := (Rat.divInt_nonneg_iff_of_pos_right (by omega)).mpr h
def spCosts : Sp := fun vs H Q _ => ∃ (a : Addr) (m k n : Nat), vs = [.ref a, .int m, .int k] ∧ WellAt H a (n + 160) ∧ m ≤ 12 ∧ k ≤ 12 ∧
  ∀ H' p css b, H p = none → Same (hid a H) (hid a H') → WellAt H' a n → IsTbl IsPrs (hid a H') (.ref p) css → css.length = m → CostN css k b → (∀ l ∈ css, ∀ q ∈ l, 0 ≤ q) → Q (.ref p) H'
theorem IsPrs.hid2 {H : Hp} {a D p : Addr} {qs : List Rat} (hn : p ≠ D) (e : ∃ ys, H D = some (.lst ys)) (h : IsPrs H (.ref p) qs) : IsPrs (Fb.hid D H) (.ref p) qs := h.hidN hn e
theorem ok_l_costs (T : Txt K mg) : FnOk P w K mg base CX0 3 T.f_l_costs T.d_l_costs ["_law_well_here", "_law_here", "_law_there"] spCosts := by
  refine T.F_l_costs.ok sc_l_costs (fun vs H Q E h => ?_) (fun cdv A outer s H vs Q E hr h => ?_)
  · obtain ⟨a, m, k, n, rfl, _⟩ := h
    rfl
  · obtain ⟨a, m, k, n, rfl, hw, m12, k12, q⟩ := h
    refine ⟨_, (pss_cons (ps_set (i := 3) sc_l_costs.nd rfl (.inr rfl) (pe_call (ok_l_one T) (hr.mono (by decide)) (by rfl) T.g_l_one T.F_l_one.kp T.b_l_one .nil pass0 (pa_cons (pv 0) (pa_cons (pe_lst (pa_cons pe_int (pa_cons pe_int (pa_cons pe_int (pa_cons (pe_op op_pow pe_int pe_int) pa_nil))))) pa_nil))))
 (pss_cons (ps_set (i := 4) sc_l_costs.nd rfl (.inr rfl) (pe_op op_add pe_int (pe_call (ok_l_draw T) (hr.mono (by decide)) (by rfl) T.g_l_draw T.F_l_draw.kp T.b_l_draw .nil pass0 (pa_cons (pv 0) (pa_cons (pe_call (ok_l_one T) (hr.mono (by decide)) (by rfl) T.g_l_one T.F_l_one.kp T.b_l_one .nil pass0 (pa_cons (pv 0) (pa_cons (pe_lst (pa_cons pe_int (pa_cons pe_int (pa_cons pe_int pa_nil)))) pa_nil))) pa_nil)))))
 (pss_one (ps_ret (pe_lc (own := [("_law_x", 5)]) (g := (gName 5)) (tt := tYes) (by rfl) sc_l_costs.nd (pi_range1 (by rfl) T.z_range (pa_cons (pv 1) pa_nil)) (blkOk_by (own := [("_law_x", 5)]) (N := ["_law_well_here", "_law_here", "_law_there", "_law_most", "_law_bottom", "_law_x", "_law_y"]) (sc := defScope s_l_costs) (by decide +kernel)) (fun _ _ _ _ _ => by exact (pg_name (i := 5) sc_l_costs.nd rfl (.inl rfl))) (fun _ _ _ _ _ => by exact pts_nil) (fun _ _ _ _ _ => by exact (by exact (pe_lc (own := [("_law_y", 6)]) (g := (gName 6)) (tt := tYes) (by rfl) sc_l_costs.nd (pi_range1 (by rfl) T.z_range (pa_cons (pv 2) pa_nil)) (by exact blkOk_by (own := [("_law_y", 6)]) (by kernel_rfl)) (fun _ _ _ _ _ => by exact (pg_name (i := 6) sc_l_costs.nd rfl (.inl rfl))) (fun _ _ _ _ _ => by exact pts_nil) (fun _ _ _ _ _ => by exact (pe_call (ok_l_low T) (hr.mono (by decide)) (by rfl) T.g_l_low T.F_l_low.kp T.b_l_low .nil pass0 (pa_cons (pe_call (ok_l_draw T) (hr.mono (by decide)) (by rfl) T.g_l_draw T.F_l_draw.kp T.b_l_draw .nil pass0 (pa_cons (pv 0) (pa_cons (pv 3) pa_nil))) (pa_cons (pv 4) pa_nil)))))))))))), ?_⟩
    refine ⟨_, rfl, _, _, rfl, rfl, ⟨by decide, by decide, by decide⟩, by show 4 ≤ sizeLine; decide, fun p1 n1 => ?_⟩
    obtain ⟨w1, s1⟩ := well_new (o := .lst [.int 2, .int 4, .int 20, .int (10 ^ (9 : Int).toNat)]) hw n1
    refine ⟨a, p1, _, n + 159, rfl, w1, sqL_hid hw n1, by decide, by decide, fun i x H2 hx s2 w2 => ?_⟩
    obtain ⟨mo, rfl, mo0, mo1⟩ : ∃ mo : Int, x = .int mo ∧ 0 < mo ∧ mo ≤ 1000000000 := by
      rcases mem4 hx with e | e | e | e <;> exact ⟨_, e, by decide, by decide⟩
    refine ⟨_, rfl, _, rfl, by show 3 ≤ sizeLine; decide, fun p3 n3 => ?_⟩
    obtain ⟨w3, s3⟩ := well_new (o := .lst [.int 1, .int 2, .int 12]) w2 n3
    refine ⟨a, p3, _, n + 158, rfl, w3, sqL_hid w2 n3, by decide, by decide, fun j y H4 hy s4 w4 => ?_⟩
    obtain ⟨g, rfl, g0, g1⟩ : ∃ g : Int, y = .int g ∧ 0 < g ∧ g ≤ 12 := by
      rcases mem3 hy with e | e | e <;> exact ⟨_, e, by decide, by decide⟩
    have gl : g.natAbs.log2 < 9000 := by
      have e : g = ((g.toNat : Nat) : Int) := by omega
      rw [e]
      exact log_small (by omega)
    refine ⟨a, g, n + 157, rfl, w4, g0, gl, fun d H5 d0 d1 s5 w5 => ⟨_, _, rfl, rfl, ?_⟩⟩
    have ml : mo.natAbs.log2 < 9000 := log_of (n := 30) (by decide) (by omega) (by decide)
    obtain ⟨bo, hbo, bo0, bo1⟩ : ∃ b : Nat, 1 + d = (b : Int) ∧ 0 < b ∧ b ≤ 12 := ⟨(1 + d).toNat, by omega, by omega, by omega⟩
    dsimp only
    rw [hbo]
    have s05 := s1.trans (s2.trans (s3.trans (s4.trans s5)))
    have nb : ∀ p, H5 p = none → H p = none := fun p hp => none_back s05 w5 hp
    refine ⟨_, rfl, m, rfl, by omega, by omega, fun D nD => lc_wellR (a := a) (fun y G => ∃ qs : List Rat, IsPrs G y qs ∧ qs.length = k ∧ ∀ q ∈ qs, Nice bo 1000000000 q ∧ 0 ≤ q) (fun _ _ _ s h => h.elim fun qs h => ⟨qs, h.1.mono s, h.2⟩) 12 n nD (w5.mono (by rw [Int.toNat_natCast]; omega)) (by rw [Int.toNat_natCast]; omega) (fun i6 H6 n6 k6 hi6 w6 s6 eD hk => ?_) (fun H6 ys s6 w6 e6 l6 r6 => ?_)⟩
    · refine ⟨rfl, _, rfl, k, rfl, by omega, by omega, fun D7 nD7 => lc_wellR (a := a) (fun y G => ∃ q : Rat, IsPr G y q ∧ Nice bo 1000000000 q ∧ 0 ≤ q) (fun _ _ _ s h => h.elim fun q h => ⟨q, h.1.mono s, h.2⟩) 1 n6 nD7 (w6.mono (by rw [Int.toNat_natCast]; omega)) (by rw [Int.toNat_natCast]; omega) (fun i8 H8 n8 k8 hi8 w8 s8 eD8 hk8 => ?_) (fun H8 ys8 s8 w8 e8 l8 r8 => ?_)⟩
      · refine ⟨rfl, _, rfl, _, rfl, a, mo, n8, rfl, w8, mo0, ml, fun d9 H9 d90 d91 s9 w9 => ⟨_, rfl, d9, (bo : Int), rfl, by omega, log_small (by omega), fun H10 r10 s10 h10 => ?_⟩⟩
        have s910 := hid_mono (a := a) s10
        refine hk8 _ _ (s9.trans s910) (w9.same s10) ⟨Rat.divInt d9 (bo : Int), ?_, Nice.of bo0 (Nat.dvd_refl _) ?_, divInt_nnK d90 bo0⟩
        · refine IsTup2.hidL ?_ (IsTup2.hid (w9.same s10) h10)
          obtain ⟨ys', e'⟩ := eD8
          have nDa : D7 ≠ a := w6.ne nD7
          refine ⟨ys', ?_⟩
          exact (s9.trans s910) _ _ (by rw [hid_ne nDa]; exact e')
        · have : d9.natAbs ≤ 1000000000 := by omega
          exact Nat.le_trans this (Nat.le_mul_of_pos_right _ bo0)
      · obtain ⟨qs, hqs⟩ := allAre_of (R := fun y q => IsPr (hid D7 (hid a H8)) y q ∧ Nice bo 1000000000 q ∧ 0 ≤ q) r8
        have nDa : D7 ≠ a := w6.ne nD7
        have nDD : D7 ≠ D := fun z => by
          obtain ⟨ys', e'⟩ := eD
          rw [z, e'] at nD7
          cases nD7
        have s68 : Same (hid a H6) (hid a H8) := s8.trans hid_same
        refine hk _ _ s68 w8 ⟨qs, ⟨D7, ys8, rfl, by rw [hid_ne nDD, hid_ne nDa]; exact e8, hqs.imp fun _ _ h => ?_⟩, by rw [← hqs.1, l8, Int.toNat_natCast], fun q hq => ?_⟩
        · refine IsTup2.hidL ?_ (IsTup2.mono h.1 hid_same)
          obtain ⟨ys', e'⟩ := eD
          have nDa' : D ≠ a := w5.ne nD
          exact ⟨ys', s68 _ _ (by rw [hid_ne nDa']; exact e')⟩
        · obtain ⟨y, hy⟩ := hqs.mem hq
          exact hy.2
    · obtain ⟨css, hcss⟩ := allAre_of (R := fun y qs => IsPrs (hid D (hid a H6)) y qs ∧ qs.length = k ∧ ∀ q ∈ qs, Nice bo 1000000000 q ∧ 0 ≤ q) r6
      have nDa : D ≠ a := w5.ne nD
      refine q H6 D css bo (nb D nD) (s05.trans (s6.trans hid_same)) w6 ⟨D, ys, rfl, by rw [hid_ne nDa]; exact e6, hcss.imp fun _ _ h => h.1.mono hid_same⟩ (by rw [← hcss.1, l6, Int.toNat_natCast]) ⟨bo0, bo1, fun qs hq => ?_⟩ fun l hl q hq => ?_
      · obtain ⟨y, hy⟩ := hcss.mem hq
        exact ⟨hy.2.1, fun q hq => (hy.2.2 q hq).1⟩
      · obtain ⟨y, hy⟩ := hcss.mem hl
        exact (hy.2.2 q hq).2
end

end Fb

namespace Fb
open PySem PySem.Spec PyProof.Rows L2
section
variable {P : Program} {w : World} {K : PySem.W.Frag} {mg : Str → Option Value} {base : Heap}
/-! ### pairs subtracted -/
theorem ok_l_less (T : Txt K mg) : FnOk P w K mg base CX0 3 T.f_l_less T.d_l_less ["_law_one_here", "_law_other"] (spTwo (· - ·)) := by
  refine T.F_l_less.ok sc_l_less (fun vs H Q E h => ?_) (fun cdv A outer s H vs Q E hr h => ?_)
  · obtain ⟨v, u, a, b, c, d, rfl, _⟩ := h
    rfl
  · obtain ⟨v, u, a, b, c, d, rfl, ⟨p, rfl, hp⟩, ⟨p', rfl, hp'⟩, la, lb, lc, ld, hb, hd, q⟩ := h
    refine ⟨_, (pss_one (ps_ret (pe_call (ok_l_added T) (hr.mono (by decide)) (by rfl) T.g_l_added T.F_l_added.kp T.b_l_added .nil pass0 (pa_cons (pv 0) (pa_cons (pe_tup (pa_cons (pe_op op_sub pe_int (pe_ix ix_tup (pv 1) pe_int (fun _ _ => rfl))) (pa_cons (pe_ix ix_tup (pv 1) pe_int (fun _ _ => rfl)) pa_nil))) pa_nil))))), ?_⟩
    refine ⟨_, rfl, _, rfl, p', _, _, _, rfl, rfl, .inl (.inl hp'), atI_nat (j := 0) rfl, _, _, rfl, rfl, _, rfl, p', _, _, _, rfl, rfl, .inl (.inl hp'), atI_nat (j := 1) rfl, by show 2 ≤ sizeLine; decide, fun t nt => ?_⟩
    have st := same_upd (o := .tup [.int (0 - c), .int d]) nt
    refine ⟨_, _, a, b, 0 - c, d, rfl, ⟨p, rfl, st _ _ hp⟩, ⟨t, rfl, upd_same⟩, la, lb, by rw [Int.zero_sub, Int.natAbs_neg]; exact lc, ld, hb, hd, fun H1 r s1 h1 => q H1 r (st.trans s1) ?_⟩
    have e : Rat.divInt a b + Rat.divInt (0 - c) d = Rat.divInt a b - Rat.divInt c d := by
      rw [Int.zero_sub, ← Rat.neg_divInt, ← Rat.sub_eq_add_neg]
    show IsPr H1 r (Rat.divInt a b - Rat.divInt c d)
    rw [← e]
    exact h1
end

end Fb

namespace Fb
open PySem PySem.Spec PyProof.Rows L2
section
variable {P : Program} {w : World} {K : PySem.W.Frag} {mg : Str → Option Value} {base : Heap}
/-! ### amounts counted in parts -/
def spUnit : Sp := fun vs H Q _ => ∃ n : Nat, vs = [.int n] ∧ n ≤ 1000 ∧ Q (.int (2 * (n : Int) + 1)) H
theorem ok_p_unit_for (T : Txt K mg) : FnOk P w K mg base CX0 1 T.f_p_unit_for T.d_p_unit_for ["many"] spUnit := by
  refine T.F_p_unit_for.ok sc_p_unit_for (fun vs H Q E h => ?_) (fun cdv A outer s H vs Q E hr h => ?_)
  · obtain ⟨n, rfl, _⟩ := h
    rfl
  · obtain ⟨n, rfl, n1, q⟩ := h
    refine ⟨_, (pss_one (ps_ret (pe_op op_add (pe_op op_mul pe_int (pv 0)) pe_int))), ?_⟩
    exact ⟨_, rfl, _, _, rfl, rfl, .inl ⟨by decide, by decide⟩, _, _, rfl, rfl, q⟩
def fld (as : List Int) (n : Nat) : List Nat := (List.range n).filter fun i => decide (0 < as.getD i 0)
def filled (as : List Int) : List Nat := fld as as.length
theorem fld_next (as : List Int) (n : Nat) : fld as (n + 1) = fld as n ++ (if 0 < as.getD n 0 then [n] else []) := by
  unfold fld
  rw [List.range_succ, List.filter_append]
  congr 1
  by_cases c : 0 < as.getD n 0
  · rw [if_pos c, List.filter_cons_of_pos (by simpa using c)]; rfl
  · rw [if_neg c, List.filter_cons_of_neg (by simpa using c)]; rfl
theorem fld_lt {as : List Int} {n i : Nat} (h : i ∈ fld as n) : i < n ∧ 0 < as.getD i 0 := by
  obtain ⟨h1, h2⟩ := List.mem_filter.mp h
  exact ⟨List.mem_range.mp h1, of_decide_eq_true h2⟩
theorem fld_len (as : List Int) (n : Nat) : (fld as n).length ≤ n := by
  have := List.length_filter_le (fun i => decide (0 < as.getD i 0)) (List.range n)
  rw [List.length_range] at this
  exact this
theorem fld_nodup (as : List Int) (n : Nat) : (fld as n).Nodup := List.nodup_range.filter _
def spParts : Sp := fun vs H Q _ => ∃ (p : Addr) (as : List Int) (g : Nat), vs = [.ref p, .int g] ∧ H p = some (.lst (as.map V.int)) ∧ as.length ≤ 40 ∧ (∀ a ∈ as, 0 ≤ a ∧ a.natAbs < 2 ^ 8001) ∧ 0 < as.sum ∧ as.sum.natAbs < 2 ^ 8500 ∧ g < 2 ^ 17000 ∧
  ∀ H' d, H d = none → Same H H' → H' d = some (.dK (dk (filled as) fun i => as.getD i 0 * ((g : Int) / as.sum))) → Q (.ref d) H'
theorem ok_p_in_parts (T : Txt K mg) : FnOk P w K mg base CX0 1 T.f_p_in_parts T.d_p_in_parts ["amounts", "grain"] spParts := by
  refine T.F_p_in_parts.ok sc_p_in_parts (fun vs H Q E h => ?_) (fun cdv A outer s H vs Q E hr h => ?_)
  · obtain ⟨p, as, g, rfl, _⟩ := h
    rfl
  · obtain ⟨p, as, g, rfl, hp, l40, bd, s0, sb, gb, q⟩ := h
    refine ⟨_, (pss_cons (ps_set (i := 2) sc_p_in_parts.nd rfl (.inr rfl) (pe_op op_fdivW (pv 1) (pe_callB (cr_sumK (K := K) rfl rfl) (by rfl) T.z_sum (by decide +kernel) (pa_cons (pv 0) pa_nil))))
 (pss_one (ps_ret (pe_dc (own := [("at", 3), ("amount", 4)]) (g := (gTup K 2 (gCons (gName 3) (gCons (gName 4) gNil)))) (tt := _) (by rfl) sc_p_in_parts.nd (pi_enum (by rfl) T.z_enumerate (pa_cons (pv 0) pa_nil)) (blkOk_by (own := [("at", 3), ("amount", 4)]) (N := ["amounts", "grain", "part", "at", "amount"]) (sc := defScope s_p_in_parts) (by decide +kernel)) (fun _ _ _ _ _ => by exact (pg_tup (by rfl) (pgs_cons (pg_name (i := 3) sc_p_in_parts.nd rfl (.inl rfl)) (pgs_cons (pg_name (i := 4) sc_p_in_parts.nd rfl (.inl rfl)) pgs_nil)))) (fun _ _ _ _ _ => by exact (pts_one (pt_cmpR op_gt (pv 4) pe_int (nomark _)))) (fun _ _ _ _ _ => by exact (pv 3)) (fun _ _ _ _ _ => by exact (pe_op op_mulW (pv 4) (pv 2))))))), ?_⟩
    have gp : (((g : Int) / as.sum)).natAbs < 2 ^ 17000 := by
      have h1 : 0 ≤ (g : Int) / as.sum := Int.ediv_nonneg (by omega) (by omega)
      have h2 : (g : Int) / as.sum ≤ g := Int.ediv_le_self _ (by omega)
      omega
    refine ⟨_, rfl, _, rfl, p, as, rfl, SqL.of hp, _, _, rfl, rfl, ⟨s0, log_of (by decide) sb (by decide)⟩, ?_⟩
    refine ⟨_, rfl, p, _, rfl, SqL.of hp, fun D nD => dcK_it (walk_enum (K := K) (a := p) (xs := as.map V.int)) (fun i H' => Same H H' ∧ H' D = some (.dK (dk (fld as i) fun i => as.getD i 0 * ((g : Int) / as.sum)))) ⟨same_upd nD, upd_same⟩ (fun i H' _ h => SqL.of (h.1 _ _ hp)) (fun i x H2 H3 hi h y => ?_) (fun H2 h => ?_)⟩
    · obtain ⟨s2, eD⟩ := h
      obtain ⟨t, x1, y1, rfl, nt, rfl, ex, ey⟩ := y
      cases ex
      rw [List.length_map] at hi
      have ey : (as.map V.int)[i]? = some y1 := ey
      have ai : as[i]? = some (as[i]'hi) := List.getElem?_eq_getElem hi
      rw [List.getElem?_map, ai] at ey
      cases ey
      have gd : as.getD i 0 = as[i]'hi := by rw [List.getD_eq_getElem?_getD, ai]; rfl
      have st := same_upd (o := .tup [.int (i : Nat), .int (as[i]'hi)]) nt
      have fl := fld_len as i
      refine ⟨t, _, rfl, .inl (.inl upd_same), rfl, _, _, rfl, _, _, rfl, rfl, rfl, ?_⟩
      refine ⟨_, rfl, _, _, rfl, rfl, _, rfl, ite2 (fun c => ?_) (fun c => ?_)⟩
      · have c := of_decide_eq_true c
        refine ⟨_, rfl, _, rfl, _, rfl, _, _, rfl, rfl, ?_, _, .inl (i : Int), rfl, st _ _ eD, small1000 (by rw [dk_len]; omega), same_over (s2.trans st) nD, ?_⟩
        · exact wide_mul (a := 8001) (b := 17000) (bd _ (List.mem_of_getElem? ai)).2 gp (by decide) (by decide) (by decide)
        · rw [upd_same, dk_new (fun z => absurd (fld_lt z).1 (Nat.lt_irrefl _)), fld_next, gd, if_pos c]
          congr 2
          refine kd_congr fun r hr => ?_
          show V.int (if r = i then as[i]'hi * ((g : Int) / as.sum) else as.getD r 0 * ((g : Int) / as.sum)) = V.int (as.getD r 0 * ((g : Int) / as.sum))
          by_cases e : r = i
          · rw [if_pos e, e, gd]
          · rw [if_neg e]
      · have c : ¬ 0 < as[i]'hi := fun z => c (decide_eq_true z)
        refine ⟨s2.trans st, ?_⟩
        rw [fld_next, gd, if_neg c, List.append_nil]
        exact st _ _ eD
    · obtain ⟨s2, eD⟩ := h
      rw [List.length_map] at eD
      exact q _ D nD s2 eD
end

end Fb

namespace Fb
open PySem PySem.Spec PyProof.Rows L2
section
variable {P : Program} {w : World} {K : PySem.W.Frag} {mg : Str → Option Value} {base : Heap}
/-! ### the greedy tree -/
/-- costs, row and column -/
def IsTri (rows cols : List Nat) (H : Hp) (v : V) (p : Wy) : Prop := ∃ q x, v = .ref q ∧ H q = some (.tup [.int x, .int (p.1 : Nat), .int (p.2 : Nat)]) ∧ p.1 ∈ rows ∧ p.2 ∈ cols
theorem IsTri.lt {rows cols : List Nat} {H H' : Hp} {v : V} {p : Wy} (h : IsTri rows cols H v p) (l : LT H H') : IsTri rows cols H' v p := by
  obtain ⟨q, x, e, h1, h2⟩ := h
  exact ⟨q, x, e, (l _ _).2 h1, h2⟩
theorem dp_build {H : Hp} {R : PyData → Prop} : ∀ {ys : List V}, (∀ y ∈ ys, ∃ d, Dp K H y d ∧ R d) → ∃ ds, DpAll K H ys ds ∧ ∀ d ∈ ds, R d
  | [], _ => ⟨[], .nil, fun d h => by cases h⟩
  | y :: ys, h => by
    obtain ⟨d, h1, h2⟩ := h y List.mem_cons_self
    obtain ⟨ds, h3, h4⟩ := dp_build (ys := ys) fun z hz => h z (List.mem_cons_of_mem _ hz)
    refine ⟨d :: ds, .cons h1 h3, fun e he => ?_⟩
    rcases List.mem_cons.mp he with rfl | he
    · exact h2
    · exact h4 e he
theorem none_same {H H' : Hp} {b : Addr} (s : Same H H') (n : H' b = none) : H b = none := by
  cases h : H b with
  | none => rfl
  | some o =>
    rw [s _ _ h] at n
    cases n
theorem kd_at {l : List Nat} {f : Nat → V} {i : Nat} {k : Key} {v : V} (h : (kd l f)[i]? = some (k, v)) : ∃ a, l[i]? = some a ∧ k = .inl (a : Int) ∧ v = f a := by
  unfold kd at h
  rw [List.getElem?_map] at h
  obtain ⟨a, ha, e⟩ := Option.map_eq_some_iff.mp h
  cases e
  exact ⟨a, ha, rfl, rfl⟩
/-- what is nought stays so -/
theorem Gr.zero1 {V : List Nd} {s r : Nd → Int} {t : List (Wy × Int)} {w ab : Wy} {m : Int} (_ : Gr V s r t) (one : m = r (.row w.1) ∨ m = r (.col w.2)) (z : r (.row ab.1) = 0 ∨ r (.col ab.2) = 0 ∨ ab = w) (m0 : 0 < m) (mr : m ≤ r (.row w.1)) (mc : m ≤ r (.col w.2)) :
    (if (Nd.row ab.1).on w = true then r (.row ab.1) - m else r (.row ab.1)) = 0 ∨ (if (Nd.col ab.2).on w = true then r (.col ab.2) - m else r (.col ab.2)) = 0 := by
  rcases z with z | z | z
  · refine .inl ?_
    by_cases c : (Nd.row ab.1).on w = true
    · have e : ab.1 = w.1 := of_decide_eq_true c
      rw [e] at z
      omega
    · rw [if_neg c]; exact z
  · refine .inr ?_
    by_cases c : (Nd.col ab.2).on w = true
    · have e : ab.2 = w.2 := of_decide_eq_true c
      rw [e] at z
      omega
    · rw [if_neg c]; exact z
  · subst z
    rcases one with e | e
    · refine .inl ?_
      rw [if_pos (show (Nd.row ab.1).on ab = true from decide_eq_true rfl)]
      omega
    · refine .inr ?_
      rw [if_pos (show (Nd.col ab.2).on ab = true from decide_eq_true rfl)]
      omega
def sup (f g : Nat → Int) : Nd → Int
  | .row r => f r
  | .col c => g c
theorem dgK {H : Hp} {d : Addr} {l : List Nat} {f : Nat → Int} {r : Nat} (e : H d = some (.dK (dk l f))) (h : r ∈ l) : DGet H d (.int (r : Nat)) (some (.int (f r))) := by
  have := DGet.k (k := .inl (r : Int)) e
  rwa [dk_val h] at this
theorem dgKf {H : Hp} {d : Addr} {od : Obj} {l : List Nat} {f : Nat → Int} {r : Nat} (e : H d = some (.frz od (.dK (dk l f)))) (h : r ∈ l) : DGet H d (.int (r : Nat)) (some (.int (f r))) := by
  refine .inl ⟨dk l f, .inl (r : Int), .inr ⟨od, e⟩, rfl, ?_⟩
  rw [dk_val h]
theorem cost_at {H : Hp} {cv : V} {M N : Nat} {C : Wy → Int} (h : Costs H cv M N C) {i j : Nat} (hi : i < M) (hj : j < N) : ∃ a rows ra row, cv = .ref a ∧ SqL K H a rows ∧ atI rows (i : Int) = some (.ref ra) ∧ SqL K H ra row ∧ atI row (j : Int) = some (.int (C (i, j))) := by
  obtain ⟨a, rows, e, h1, h2, h3⟩ := h
  obtain ⟨ra, g1, g2⟩ := h3 i hi
  exact ⟨a, rows, ra, _, e, SqL.of h1, atI_nat g1, SqL.of g2, range_at (C := fun j => .int (C (i, j))) hj⟩
def spGreedy (K : PySem.W.Frag) : Sp := fun vs H Q _ => ∃ (cv : V) (d1 d2 : Addr) (M N : Nat) (C : Wy → Int) (rows cols : List Nat) (f g : Nat → Int), vs = [cv, .ref d1, .ref d2] ∧ Costs H cv M N C ∧ d1 ≠ d2 ∧ H d1 = some (.dK (dk rows f)) ∧ H d2 = some (.dK (dk cols g)) ∧
  rows.Nodup ∧ cols.Nodup ∧ rows ≠ [] ∧ rows.length ≤ 30 ∧ cols.length ≤ 30 ∧ (∀ r ∈ rows, r < M) ∧ (∀ c ∈ cols, c < N) ∧ (∀ v ∈ plc rows cols, 0 < sup f g v) ∧ vsum (plc rows cols) (fun v => v.ep * sup f g v) = 0 ∧
  ∀ H' tr t, H tr = none → Same H H' → H' tr = some (.dT (tk t)) → Feas (plc rows cols) (sup f g) t → (∀ p ∈ t, 0 < p.2) → (t.map (·.1)).Nodup → t.length + 1 ≤ (plc rows cols).length → Q (.ref tr) H'
set_option maxHeartbeats 800000 in
theorem ok_p_greedy_tree (T : Txt K mg) : FnOk P w K mg base CX0 1 T.f_p_greedy_tree T.d_p_greedy_tree ["costs", "first", "second"] (spGreedy K) := by
  refine T.F_p_greedy_tree.ok sc_p_greedy_tree (fun vs H Q E h => ?_) (fun cdv A outer s H vs Q E hr h => ?_)
  · obtain ⟨cv, d1, d2, M, N, C, rows, cols, f, g, rfl, _⟩ := h
    rfl
  · obtain ⟨cv, d1, d2, M, N, C, rows, cols, f, g, rfl, hC, d12, h1, h2, nr, nc, rne, lr, lc, rM, cN, pos, tot, q⟩ := h
    refine ⟨_, (pss_cons (ps_set (i := 3) sc_p_greedy_tree.nd rfl (.inl rfl) (pe_callTy call_dictD (by rfl) T.z_dict (by decide +kernel) (pa_cons (pv 1) pa_nil)))
 (pss_cons (ps_set (i := 4) sc_p_greedy_tree.nd rfl (.inl rfl) (pe_callTy call_dictD (by rfl) T.z_dict (by decide +kernel) (pa_cons (pv 2) pa_nil)))
 (pss_cons (ps_set (i := 5) sc_p_greedy_tree.nd rfl (.inl rfl) pe_dnewT)
 (pss_cons (ps_for PassesOwn.never rfl (pi_list (pe_callB (cr_sortD hr.units) (by rfl) T.z_sorted (by decide +kernel) (pa_cons (pe_lock (pe_lock (pe_lc2 (own := [("row", 7), ("column", 8)]) (vs1 := [8]) (g := (gName 7)) (tt := tYes) (g1 := (gName 8)) (tt1 := tYes) (by rfl) sc_p_greedy_tree.nd (pi_keys (pv 1)) (blkOk_by (own := [("row", 7), ("column", 8)]) (N := ["costs", "first", "second", "lying", "wanted", "tree", "cost", "row", "column", "amount"]) (sc := defScope s_p_greedy_tree) (by decide +kernel)) (by decide) (fun _ _ _ _ _ => by exact (pg_name (i := 7) sc_p_greedy_tree.nd rfl (.inl rfl))) (fun _ _ _ _ _ => by exact pts_nil) (fun _ _ _ _ _ => by exact (pi_keys (pv 2))) (fun _ _ _ _ _ => by exact (pg_name (i := 8) sc_p_greedy_tree.nd rfl (.inl rfl))) (fun _ _ _ _ _ => by exact pts_nil) (fun _ _ _ _ _ => by exact (pe_tup (pa_cons (pe_ix (ix_listK (K := K) rfl) (pe_ix (ix_listK (K := K) rfl) (pv 0) (pv 7) (fun _ _ => rfl)) (pv 8) (fun _ _ => rfl)) (pa_cons (pv 7) (pa_cons (pv 8) pa_nil)))))))) pa_nil))) (pg_tup (by rfl) (pgs_cons (pg_name (i := 6) sc_p_greedy_tree.nd rfl (.inl rfl)) (pgs_cons (pg_name (i := 7) sc_p_greedy_tree.nd rfl (.inl rfl)) (pgs_cons (pg_name (i := 8) sc_p_greedy_tree.nd rfl (.inl rfl)) pgs_nil))))
  (pss_cons (ps_set (i := 9) sc_p_greedy_tree.nd rfl (.inl rfl) (pe_callB (call_min2 rfl) (by rfl) T.z_min (by decide +kernel) (pa_cons (pe_dget (units1 hr.units) (pv 3) (pv 7) (fun _ _ => rfl)) (pa_cons (pe_dget (units1 hr.units) (pv 4) (pv 8) (fun _ _ => rfl)) pa_nil))))
 (pss_one (ps_if (pt_cmpR op_gt (pv 9) pe_int (nomark _))
  (pss_cons (ps_dput (units1 hr.units) (pv 5) (pe_tup (pa_cons (pv 7) (pa_cons (pv 8) pa_nil))) (pv 9) rfl)
 (pss_cons (ps_daug (units1 hr.units) (pv 3) (pv 7) (pv 9) ip_sub (fun _ _ _ => rfl))
 (pss_one (ps_daug (units1 hr.units) (pv 4) (pv 8) (pv 9) ip_sub (fun _ _ _ => rfl)))))
  pss_nil))))
 (pss_one (ps_ret (pv 5))))))), ?_⟩
    refine ⟨_, rfl, d1, _, rfl, .inl h1, fun ly nly => ?_⟩
    have s1 := same_upd (o := .dK (dk rows f)) nly
    refine ⟨_, rfl, d2, _, rfl, .inl (s1 _ _ h2), fun wa nwa => ?_⟩
    have s2 := same_upd (o := .dK (dk cols g)) nwa
    refine fun tr ntr => ?_
    have s3 := same_upd (o := .dT []) ntr
    have nwH := none_same s1 nwa
    have ntH := none_same (s1.trans s2) ntr
    have lw : ly ≠ wa := fun z => by rw [← z, upd_same] at nwa; cases nwa
    have wt : wa ≠ tr := fun z => by rw [← z, upd_same] at ntr; cases ntr
    have lt : ly ≠ tr := fun z => by rw [← z, s2 _ _ upd_same] at ntr; cases ntr
    have ely := s3 _ _ (s2 _ _ (@upd_same H ly (.dK (dk rows f))))
    have ewa := s3 _ _ (@upd_same (upd H ly (.dK (dk rows f))) wa (.dK (dk cols g)))
    have etr := @upd_same (upd (upd H ly (.dK (dk rows f))) wa (.dK (dk cols g))) tr (.dT [])
    have s03 := s1.trans (s2.trans s3)
    generalize upd (upd (upd H ly (.dK (dk rows f))) wa (.dK (dk cols g))) tr (.dT []) = H3 at *
    have h1' := s03 _ _ h1
    have h2' := s03 _ _ h2
    refine ⟨d1, _, h1', True.intro, fun od1 => ⟨d2, _, (upd_ne d12.symm).trans h2', True.intro, fun od2 => ?_⟩⟩
    have f1 : (upd (upd H3 d1 (.frz od1 (.dK (dk rows f)))) d2 (.frz od2 (.dK (dk cols g)))) d1 = some (.frz od1 (.dK (dk rows f))) := (upd_ne d12).trans upd_same
    have f2 := @upd_same (upd H3 d1 (.frz od1 (.dK (dk rows f)))) d2 (.frz od2 (.dK (dk cols g)))
    have lt34 : LT H3 (upd (upd H3 d1 (.frz od1 (.dK (dk rows f)))) d2 (.frz od2 (.dK (dk cols g)))) := (LT.dK h1').trans (LT.dK ((upd_ne d12.symm).trans h2'))
    have lock : ∀ {H5 : Hp}, Same (upd (upd H3 d1 (.frz od1 (.dK (dk rows f)))) d2 (.frz od2 (.dK (dk cols g)))) H5 → Same H3 (upd (upd H5 d2 (.dK (dk cols g))) d1 (.dK (dk rows f))) := fun {H5} s => lock_same h1' (lock_same ((upd_ne d12.symm).trans h2') s)
    generalize upd (upd H3 d1 (.frz od1 (.dK (dk rows f)))) d2 (.frz od2 (.dK (dk cols g))) = H4 at *
    have hC4 := (hC.mono s03).lt lt34
    refine ⟨_, rfl, d1, od1, rfl, .inl ⟨_, f1, fun D nD => lc2_all (walk_keys (d := d1) (o := od1) (kvs := dk rows f)) (fun _ => cols.length) (fun i j y G => ∃ a b, rows[i]? = some a ∧ cols[j]? = some b ∧ IsTri rows cols G y (a, b)) (fun _ _ _ _ _ s ⟨a, b, ha, hb, h⟩ => ⟨a, b, ha, hb, h.lt (.of s)⟩) 30 (fun _ _ => lc) (by rw [dk_len]; omega) nD (fun H' s => s _ _ f1) (fun i x H5 H6 kk hi s5 eD y hk => ?_) (fun H5 bs s5 e5 l5 r5 => ?_)⟩⟩
    · obtain ⟨rfl, k, v, hk', rfl⟩ := y
      obtain ⟨a, ha, rfl, _⟩ := kd_at hk'
      refine ⟨rfl, _, rfl, d2, od2, rfl, .inl ⟨_, hid_same _ _ (s5 _ _ f2), hk _ _ _ ⟨Same.refl _, fun H => H d2 = some (.frz od2 (.dK (dk cols g))), _, by rw [← dk_len cols g]; exact walk_keys, fun H7 s7 _ => hid_same _ _ (s7 _ _ (s5 _ _ f2)), fun j x1 H7 H8 k hj s7 eD7 y1 hk1 => ?_⟩⟩⟩
      obtain ⟨rfl, k2, v2, hk2, rfl⟩ := y1
      obtain ⟨b, hb, rfl, _⟩ := kd_at hk2
      obtain ⟨ca, crs, cra, crow, rfl, g1, g2, g3, g4⟩ := cost_at (K := K) (hC4.mono (s5.trans (s7.trans hid_same))) (rM a (List.mem_of_getElem? ha)) (cN b (List.mem_of_getElem? hb))
      refine ⟨rfl, _, rfl, _, rfl, ca, crs, _, _, rfl, rfl, g1, g2, _, rfl, cra, crow, _, _, rfl, rfl, g3, g4, _, rfl, _, rfl, by show 3 ≤ sizeLine; decide, fun q nq => ?_⟩
      refine hk1 _ _ (same_upd nq) ⟨a, b, ha, hb, q, C (a, b), rfl, ?_, List.mem_of_getElem? ha, List.mem_of_getElem? hb⟩
      obtain ⟨ys, hys⟩ := eD7
      rw [hid_ne (fun z => by rw [z, hys] at nq; cases nq)]
      exact upd_same
    · have sA := s5.trans hid_same
      have e5d2 := sA _ _ f2
      have e5d1 := sA _ _ f1
      have s36 := lock sA
      have lt56 : LT H5 (upd (upd H5 d2 (.dK (dk cols g))) d1 (.dK (dk rows f))) := (LT.frz e5d2).trans (LT.frz ((upd_ne d12).trans e5d1))
      have all : ∀ y ∈ bs.flatten, ∃ p, IsTri rows cols (upd (upd H5 d2 (.dK (dk cols g))) d1 (.dK (dk rows f))) y p := fun y hy => by
        obtain ⟨b, hb, hyb⟩ := List.mem_flatten.mp hy
        obtain ⟨i, hi⟩ := List.getElem?_of_mem hb
        obtain ⟨j, hj⟩ := List.getElem?_of_mem hyb
        obtain ⟨a, c, _, _, h⟩ := (r5 i b hi).2 j y hj
        exact ⟨_, (h.lt (.of hid_same)).lt lt56⟩
      have cov : ∀ a ∈ rows, ∀ c ∈ cols, ∃ y ∈ bs.flatten, IsTri rows cols (upd (upd H5 d2 (.dK (dk cols g))) d1 (.dK (dk rows f))) y (a, c) := fun a ha c hc => by
        obtain ⟨i, hi⟩ := List.getElem?_of_mem ha
        obtain ⟨j, hj⟩ := List.getElem?_of_mem hc
        have il := (List.getElem?_eq_some_iff.mp hi).1
        have jl := (List.getElem?_eq_some_iff.mp hj).1
        rw [dk_len] at l5
        have hb : bs[i]? = some (bs[i]'(by omega)) := List.getElem?_eq_getElem _
        obtain ⟨lb, rb⟩ := r5 i _ hb
        have hy : (bs[i]'(by omega))[j]? = some ((bs[i]'(by omega))[j]'(by omega)) := List.getElem?_eq_getElem _
        obtain ⟨a', c', ha', hc', h⟩ := rb j _ hy
        rw [hi] at ha'
        rw [hj] at hc'
        cases ha'
        cases hc'
        exact ⟨_, List.mem_flatten.mpr ⟨_, List.mem_of_getElem? hb, List.mem_of_getElem? hy⟩, (h.lt (.of hid_same)).lt lt56⟩
      have eD6 : (upd (upd H5 d2 (.dK (dk cols g))) d1 (.dK (dk rows f))) D = some (.lst bs.flatten) := (lt56 _ _).1 e5
      refine ⟨e5d2, (upd_ne d12).trans e5d1, ?_⟩
      generalize upd (upd H5 d2 (.dK (dk cols g))) d1 (.dK (dk rows f)) = H6 at *
      obtain ⟨ds, hds, rds⟩ := dp_build (K := K) (H := H6) (R := fun d => ∃ x a b : Int, d = .tuple [.int x, .int a, .int b]) (ys := bs.flatten) fun y hy => by
        obtain ⟨p, q, x, rfl, hq, _⟩ := all y hy
        exact ⟨_, .tup (.inl (.inl hq)) (.cons (.int _) (.cons (.int _) (.cons (.int _) .nil))), _, _, _, rfl⟩
      refine ⟨D, _, ds, rfl, SqL.of eD6, hds, fun d hd d' hd' => ?_, .inl fun d hd => ?_, fun d hd => ?_, fun zs p pm np => ?_⟩
      · obtain ⟨x, a, b, rfl⟩ := rds d hd
        obtain ⟨x', a', b', rfl⟩ := rds d' hd'
        rfl
      · obtain ⟨x, a, b, rfl⟩ := rds d hd
        exact ⟨_, _, rfl⟩
      · obtain ⟨x, a, b, rfl⟩ := rds d hd
        show max 0 (max 0 (max 0 0)) + 1 ≤ 8
        decide
      have s67 := same_upd (o := .lst zs) np
      have ez := @upd_same H6 p (.lst zs)
      have vnd := plc_nodup nr nc
      have vl : (plc rows cols).length = rows.length + cols.length := by unfold plc; rw [List.length_append, List.length_map, List.length_map]
      have vne : plc rows cols ≠ [] := fun z => by
        have := List.length_pos_iff.mpr rne
        rw [z] at vl
        simp at vl
        omega
      have s07 := s03.trans (s36.trans s67)
      have ely7 := s67 _ _ (s36 _ _ ely)
      have ewa7 := s67 _ _ (s36 _ _ ewa)
      have etr7 := s67 _ _ (s36 _ _ etr)
      have allz : ∀ y ∈ zs, ∃ ab, IsTri rows cols (upd H6 p (.lst zs)) y ab := fun y hy => (all y (pm.mem_iff.mp hy)).elim fun ab h => ⟨ab, h.lt (.of s67)⟩
      have covz : ∀ a ∈ rows, ∀ c ∈ cols, ∃ y ∈ zs, IsTri rows cols (upd H6 p (.lst zs)) y (a, c) := fun a ha c hc => (cov a ha c hc).elim fun y h => ⟨y, pm.mem_iff.mpr h.1, h.2.lt (.of s67)⟩
      generalize upd H6 p (.lst zs) = H7 at *
      clear all cov ds hds rds s36 s67 sA lt56 lock h1' h2' s03 eD6 e5 e5d1 e5d2 r5 s5 f1 f2 lt34 hC4 nD ely ewa etr hC s1 s2 s3
      refine ⟨p, rfl, ⟨_, SqL.of ez⟩, for_list (K := K) (a := p) (xs := zs) (fun i σ H' => ∃ (y6 y7 y8 y9 : Option V) (r' : Nd → Int) (t : List (Wy × Int)), σ = [some cv, some (.ref d1), some (.ref d2), some (.ref ly), some (.ref wa), some (.ref tr), y6, y7, y8, y9] ∧ Same H H' ∧ LT H7 H' ∧
          H' ly = some (.dK (dk rows fun a => r' (.row a))) ∧ H' wa = some (.dK (dk cols fun a => r' (.col a))) ∧ H' tr = some (.dT (tk t)) ∧ Gr (plc rows cols) (sup f g) r' t ∧ (t.map (·.1)).Nodup ∧ (∀ w : Wy, w ∈ t.map (·.1) → r' (.row w.1) = 0 ∨ r' (.col w.2) = 0) ∧
          ∀ (j : Nat) (y : V) (ab : Wy), j < i → zs[j]? = some y → IsTri rows cols H7 y ab → r' (.row ab.1) = 0 ∨ r' (.col ab.2) = 0) ⟨_, _, _, _, sup f g, [], rfl, s07, LT.refl _, ely7, ewa7, etr7, Gr.nil vne pos tot, List.nodup_nil, (fun w hw => by cases hw), fun j y ab h => absurd h (Nat.not_lt_zero _)⟩ (fun i σ H' _ h => ?_) (fun i x σ H' hx h => ?_) (fun σ H' h => ?_)⟩
      · obtain ⟨_, _, _, _, _, _, _, _, l7, _⟩ := h
        exact SqL.of ((l7 _ _).1 ez)
      · obtain ⟨y6, y7, y8, y9, r', t, rfl, s8, l7, el, ew, et, G, tn, tz, dz⟩ := h
        obtain ⟨⟨a, b⟩, q0, cx, rfl, hq, ha, hb⟩ := allz x (List.mem_of_getElem? hx)
        have ha : a ∈ rows := ha
        have hb : b ∈ cols := hb
        have hrV : Nd.row a ∈ plc rows cols := row_plc.mpr ha
        have hcV : Nd.col b ∈ plc rows cols := col_plc.mpr hb
        have mine : ∀ ab', IsTri rows cols H7 (.ref q0) ab' → ab' = (a, b) := fun ab' ⟨q1, x1, e1, h1, _⟩ => by
          cases e1
          rw [hq] at h1
          have h1 := HO.tup.inj (Option.some.inj h1)
          have e2 := V.int.inj (List.cons.inj (List.cons.inj h1).2).1
          have e3 := V.int.inj (List.cons.inj (List.cons.inj (List.cons.inj h1).2).2).1
          exact Prod.ext (by show ab'.1 = a; have e2 : (a : Int) = (ab'.1 : Int) := e2; omega) (by show ab'.2 = b; have e3 : (b : Int) = (ab'.2 : Int) := e3; omega)
        have tl : t.length ≤ 60 := by
          have := G.cnt
          rcases this with ⟨_, c⟩ | ⟨_, c⟩
          · omega
          · have : 0 ≤ npos (plc rows cols) r' := vsum_pos fun v _ => by split <;> omega
            omega
        refine ⟨q0, _, rfl, .inl (.inl ((l7 _ _).2 hq)), rfl, _, _, rfl, _, _, rfl, _, _, rfl, rfl, ?_⟩
        refine ⟨_, rfl, _, rfl, ly, _, rfl, dgK el ha, _, rfl, _, rfl, wa, _, rfl, dgK ew hb, _, _, rfl, ?_⟩
        obtain ⟨m, hm⟩ : ∃ m, m = (if r' (.col b) < r' (.row a) then r' (.col b) else r' (.row a)) := ⟨_, rfl⟩
        rw [← hm]
        dsimp only [gName]
        have nr0 := G.nn _ hrV
        have nc0 := G.nn _ hcV
        have mr : m ≤ r' (.row a) := by rw [hm]; split <;> omega
        have mc : m ≤ r' (.col b) := by rw [hm]; split <;> omega
        have one : m = r' (.row a) ∨ m = r' (.col b) := by
          rw [hm]
          split
          · exact .inr rfl
          · exact .inl rfl
        refine ⟨_, rfl, _, _, rfl, rfl, _, rfl, ite2 (fun c => ?_) (fun c => ?_)⟩
        · have m0 : 0 < m := of_decide_eq_true c
          have G' := G.step vnd (w := (a, b)) hrV hcV m0 mr mc one
          have wnew : (a, b) ∉ t.map (·.1) := fun hw => by
            have : r' (.row a) = 0 ∨ r' (.col b) = 0 := tz _ hw
            omega
          refine ⟨_, rfl, _, rfl, _, rfl, _, rfl, by show 2 ≤ sizeLine; decide, fun q2 nq2 => ?_⟩
          have x1 := same_upd (o := .tup [.int (a : Nat), .int (b : Nat)]) nq2
          have e1 : (upd H' q2 (.tup [.int (a : Nat), .int (b : Nat)])) q2 = some (.tup ((wk (a, b)).map kV)) := upd_same
          refine ⟨tr, _, rfl, DPut.t (x1 _ _ et) e1 (small1000 (by rw [tk_len]; omega)), ?_⟩
          rw [tk_new wnew]
          have l1 : LT H' (upd (upd H' q2 (.tup [.int (a : Nat), .int (b : Nat)])) tr (.dT (tk (t ++ [((a, b), m)])))) := (LT.of x1).trans (LT.dT (x1 _ _ et))
          have el2 : (upd (upd H' q2 (.tup [.int (a : Nat), .int (b : Nat)])) tr (.dT (tk (t ++ [((a, b), m)])))) ly = _ := (upd_ne lt).trans (x1 _ _ el)
          have ew2 : (upd (upd H' q2 (.tup [.int (a : Nat), .int (b : Nat)])) tr (.dT (tk (t ++ [((a, b), m)])))) wa = _ := (upd_ne wt).trans (x1 _ _ ew)
          have et2 := @upd_same (upd H' q2 (.tup [.int (a : Nat), .int (b : Nat)])) tr (.dT (tk (t ++ [((a, b), m)])))
          have s8' : Same H (upd (upd H' q2 (.tup [.int (a : Nat), .int (b : Nat)])) tr (.dT (tk (t ++ [((a, b), m)])))) := same_over (s8.trans x1) ntH
          generalize upd (upd H' q2 (.tup [.int (a : Nat), .int (b : Nat)])) tr (.dT (tk (t ++ [((a, b), m)]))) = H8 at *
          refine ⟨_, rfl, _, rfl, ly, _, rfl, dgK el2 ha, _, rfl, _, _, rfl, rfl, _, DPut.k (k := .inl (a : Int)) el2 (small1000 (by rw [dk_len]; omega)), ?_⟩
          rw [dk_put ha]
          have ew3 := (upd_ne lw.symm (o := .dK (dk rows fun y => if y = a then r' (.row a) - m else r' (.row y)))).trans ew2
          refine ⟨_, rfl, _, rfl, wa, _, rfl, dgK ew3 hb, _, rfl, _, _, rfl, rfl, _, DPut.k (k := .inl (b : Int)) ew3 (small1000 (by rw [dk_len]; omega)), ?_⟩
          rw [dk_put hb]
          refine ⟨_, _, _, _, _, _, rfl, same_over (same_over s8' nly) nwH, (l7.trans l1).trans ((LT.dK el2).trans (LT.dK ew3)), ?_, ?_, ?_, G', ?_, fun w hw => ?_, fun j y ab hj hy hab => ?_⟩
          · rw [upd_ne lw, upd_same]
            congr 2
            refine kd_congr fun y _ => ?_
            show V.int (if y = a then r' (.row a) - m else r' (.row y)) = V.int (if decide (y = a) = true then r' (.row y) - m else r' (.row y))
            by_cases e : y = a
            · rw [if_pos e, if_pos (decide_eq_true e), e]
            · rw [if_neg e, if_neg (by simpa using e)]
          · rw [upd_same]
            congr 2
            refine kd_congr fun y _ => ?_
            show V.int (if y = b then r' (.col b) - m else r' (.col y)) = V.int (if decide (y = b) = true then r' (.col y) - m else r' (.col y))
            by_cases e : y = b
            · rw [if_pos e, if_pos (decide_eq_true e), e]
            · rw [if_neg e, if_neg (by simpa using e)]
          · rw [upd_ne wt.symm, upd_ne lt.symm]
            exact et2
          · rw [List.map_append]
            refine List.nodup_append.mpr ⟨tn, List.nodup_cons.mpr ⟨by simp, List.nodup_nil⟩, fun x hx z hz e => ?_⟩
            rw [show List.map (·.1) [((a, b), m)] = [(a, b)] from rfl, List.mem_singleton] at hz
            exact wnew (hz ▸ e ▸ hx)
          · refine G.zero1 (w := (a, b)) one ?_ m0 mr mc
            rw [List.map_append] at hw
            rcases List.mem_append.mp hw with hw | hw
            · exact (tz w hw).elim .inl fun h => .inr (.inl h)
            · exact .inr (.inr (List.mem_singleton.mp hw))
          · have z0 : r' (.row ab.1) = 0 ∨ r' (.col ab.2) = 0 ∨ ab = (a, b) := by
              by_cases hji : j < i
              · exact (dz j y ab hji hy hab).elim .inl fun h => .inr (.inl h)
              · have : j = i := by omega
                subst this
                rw [hx] at hy
                cases hy
                exact .inr (.inr (mine ab hab))
            exact G.zero1 one z0 m0 mr mc
        · have c : ¬ 0 < m := fun z => c (decide_eq_true z)
          refine ⟨_, _, _, _, r', t, rfl, s8, l7, el, ew, et, G, tn, tz, fun j y ab hj hy hab => ?_⟩
          by_cases hji : j < i
          · exact dz j y ab hji hy hab
          · have : j = i := by omega
            subst this
            rw [hx] at hy
            cases hy
            rw [mine ab hab]
            show r' (.row a) = 0 ∨ r' (.col b) = 0
            omega
      · obtain ⟨y6, y7, y8, y9, r', t, rfl, s8, l7, el, ew, et, G, tn, tz, dz⟩ := h
        obtain ⟨F, len⟩ := G.done fun a ha b hb => by
          obtain ⟨y, hy, hab⟩ := covz a ha b hb
          obtain ⟨j, hj⟩ := List.getElem?_of_mem hy
          exact dz j y (a, b) (List.getElem?_eq_some_iff.mp hj).1 hj hab
        exact ⟨_, rfl, q _ tr t ntH s8 et F G.pos tn len⟩
end

end Fb

namespace Fb
open PySem PySem.Spec PyProof.Rows L2
section
variable {P : Program} {w : World} {K : PySem.W.Frag} {mg : Str → Option Value} {base : Heap}
/-! ### the first tree -/
def unitZ (rows : List Nat) : Int := 2 * (rows.length : Int) + 1
def sFirst (rows : List Nat) (x y : Nat → Int) (last : Nat) : Nd → Int := fun v => unitZ rows * sup x y v + bit rows.length last v
theorem tot_first {rows cols : List Nat} {x y : Nat → Int} {last : Nat} (nc : cols.Nodup) (hl : last ∈ cols) (tot : vsum (plc rows cols) (fun v => v.ep * sup x y v) = 0) : vsum (plc rows cols) (fun v => v.ep * sFirst rows x y last v) = 0 := by
  have e : vsum (plc rows cols) (fun v => v.ep * sFirst rows x y last v) = unitZ rows * vsum (plc rows cols) (fun v => v.ep * sup x y v) + vsum (plc rows cols) fun v => v.ep * bit rows.length last v := by
    rw [← vsum_mul, ← vsum_add]
    refine vsum_congr fun v _ => ?_
    unfold sFirst
    rw [Int.mul_add, ← Int.mul_assoc, ← Int.mul_assoc, Int.mul_comm v.ep]
  rw [e, tot, Int.mul_zero, Int.zero_add, vsum_plc]
  have e1 : vsum rows (fun r => (Nd.row r).ep * bit rows.length last (.row r)) = rows.length := by
    have := vsum_ones rows fun _ => true
    rw [show rows.filter (fun _ => true) = rows from List.filter_eq_self.mpr fun _ _ => rfl] at this
    rw [← this]
    rfl
  have e2 : vsum cols (fun c => (Nd.col c).ep * bit rows.length last (.col c)) = vsum cols fun c => if c = last then -(rows.length : Int) else 0 := vsum_congr fun c _ => by
    show (-1 : Int) * (if c = last then (rows.length : Int) else 0) = _
    by_cases h : c = last
    · rw [if_pos h, if_pos h, Int.neg_mul, Int.one_mul]
    · rw [if_neg h, if_neg h]; rfl
  rw [e1, e2, vsum_one nc fun _ => -(rows.length : Int), if_pos hl]
  omega
def spFirst (K : PySem.W.Frag) : Sp := fun vs H Q _ => ∃ (cv : V) (d1 d2 : Addr) (M N : Nat) (C : Wy → Int) (rows cols : List Nat) (x y : Nat → Int), vs = [cv, .ref d1, .ref d2] ∧ Costs H cv M N C ∧ H d1 = some (.dK (dk rows x)) ∧ H d2 = some (.dK (dk cols y)) ∧
  rows.Nodup ∧ cols.Nodup ∧ rows ≠ [] ∧ cols ≠ [] ∧ rows.length ≤ 30 ∧ cols.length ≤ 30 ∧ (∀ r ∈ rows, r < M) ∧ (∀ c ∈ cols, c < N) ∧ (∀ v ∈ plc rows cols, 0 < sup x y v) ∧ vsum (plc rows cols) (fun v => v.ep * sup x y v) = 0 ∧
  ∀ H' tr t last, last ∈ cols → H tr = none → Same H H' → H' tr = some (.dT (tk t)) → Tree rows cols (sFirst rows x y last) t → Q (.ref tr) H'
theorem nd_first {rows cols : List Nat} {x y : Nat → Int} {last : Nat} (nr : rows.Nodup) (nc : cols.Nodup) (hl : last ∈ cols) (pos : ∀ v ∈ plc rows cols, 0 < sup x y v) (tot : vsum (plc rows cols) (fun v => v.ep * sup x y v) = 0) : Nondeg (plc rows cols) (sFirst rows x y last) :=
  nondeg_of nr nc hl pos tot (by unfold unitZ; omega)
set_option maxHeartbeats 800000 in
theorem ok_p_first_tree (T : Txt K mg) : FnOk P w K mg base CX0 2 T.f_p_first_tree T.d_p_first_tree ["costs", "lying", "wanted"] (spFirst K) := by
  refine T.F_p_first_tree.ok sc_p_first_tree (fun vs H Q E h => ?_) (fun cdv A outer s H vs Q E hr h => ?_)
  · obtain ⟨cv, d1, d2, M, N, C, rows, cols, x, y, rfl, _⟩ := h
    rfl
  · obtain ⟨cv, d1, d2, M, N, C, rows, cols, x, y, rfl, hC, h1, h2, nr, nc, rne, cne, lr, lc, rM, cN, pos, tot, q⟩ := h
    refine ⟨_, (pss_cons (ps_set (i := 3) sc_p_first_tree.nd rfl (.inl rfl) (pe_callB call_lenD (by rfl) T.z_len (by decide +kernel) (pa_cons (pv 1) pa_nil)))
 (pss_cons (ps_set (i := 4) sc_p_first_tree.nd rfl (.inr rfl) (pe_call (ok_p_unit_for T) (hr.mono (by decide)) (by rfl) T.g_p_unit_for T.F_p_unit_for.kp T.b_p_unit_for .nil pass0 (pa_cons (pv 3) pa_nil)))
 (pss_cons (ps_set (i := 5) sc_p_first_tree.nd rfl (.inl rfl) (pe_callB (cr_max rfl) (by rfl) T.z_max (by decide +kernel) (pa_cons (pe_callTy (call_list_dK rfl) (by rfl) T.z_list (by decide +kernel) (pa_cons (pv 2) pa_nil)) pa_nil)))
 (pss_cons (ps_lock (ps_setDc (i := 6) (own := [("row", 8), ("amount", 9)]) (g := (gTup K 2 (gCons (gName 8) (gCons (gName 9) gNil)))) (tt := tYes) (by rfl) sc_p_first_tree.nd rfl rfl (sw_trueD rfl rfl rfl (by decide +kernel)) (pi_items (pv 1)) (blkOk_by (own := [("row", 8), ("amount", 9)]) (N := ["costs", "lying", "wanted", "many", "unit", "last", "more", "sought", "row", "amount", "column"]) (sc := defScope s_p_first_tree) (by decide +kernel)) (fun _ _ _ _ _ => by exact (pg_tup (by rfl) (pgs_cons (pg_name (i := 8) sc_p_first_tree.nd rfl (.inl rfl)) (pgs_cons (pg_name (i := 9) sc_p_first_tree.nd rfl (.inl rfl)) pgs_nil)))) (fun _ _ _ _ _ => by exact pts_nil) (fun _ _ _ _ _ => by exact (pv 8)) (fun _ _ _ _ _ => by exact (pe_op op_add (pe_op op_mul (pv 9) (pv 4)) pe_int))))
 (pss_cons (ps_lock (ps_setDc (i := 7) (own := [("column", 10), ("amount", 9)]) (g := (gTup K 2 (gCons (gName 10) (gCons (gName 9) gNil)))) (tt := tYes) (by rfl) sc_p_first_tree.nd rfl rfl (sw_trueD rfl rfl rfl (by decide +kernel)) (pi_items (pv 2)) (blkOk_by (own := [("column", 10), ("amount", 9)]) (N := ["costs", "lying", "wanted", "many", "unit", "last", "more", "sought", "row", "amount", "column"]) (sc := defScope s_p_first_tree) (by decide +kernel)) (fun _ _ _ _ _ => by exact (pg_tup (by rfl) (pgs_cons (pg_name (i := 10) sc_p_first_tree.nd rfl (.inl rfl)) (pgs_cons (pg_name (i := 9) sc_p_first_tree.nd rfl (.inl rfl)) pgs_nil)))) (fun _ _ _ _ _ => by exact pts_nil) (fun _ _ _ _ _ => by exact (pv 10)) (fun _ _ _ _ _ => by exact (pe_op op_mul (pv 9) (pv 4)))))
 (pss_cons (ps_daug (units1 hr.units) (pv 7) (pv 5) (pv 3) ip_add (fun _ _ _ => rfl))
 (pss_one (ps_ret (pe_call (ok_p_greedy_tree T) (hr.mono (by decide)) (by rfl) T.g_p_greedy_tree T.F_p_greedy_tree.kp T.b_p_greedy_tree .nil pass0 (pa_cons (pv 0) (pa_cons (pv 6) (pa_cons (pv 7) pa_nil)))))))))))), ?_⟩
    refine ⟨_, rfl, d1, _, rfl, h1, ?_⟩
    rw [dk_len]
    refine ⟨_, rfl, rows.length, rfl, by omega, ?_⟩
    refine ⟨_, rfl, d2, _, rfl, h2, fun pl npl => ?_⟩
    have ek : ((dk cols y).map fun kv => kV kv.1) = (cols.map fun (c : Nat) => (c : Int)).map V.int := by
      unfold dk kd
      rw [List.map_map, List.map_map]
      rfl
    rw [ek]
    have x1 := same_upd (o := .lst ((cols.map fun (c : Nat) => (c : Int)).map V.int)) npl
    refine ⟨pl, _, rfl, SqL.of upd_same, by rw [List.length_map]; exact List.length_pos_iff.mpr cne, fun mx hmx _ => ?_⟩
    obtain ⟨last, hl, rfl⟩ := List.mem_map.mp hmx
    have h1 := x1 _ _ h1
    have h2 := x1 _ _ h2
    have hC := hC.mono x1
    generalize upd H pl (.lst ((cols.map fun (c : Nat) => (c : Int)).map V.int)) = H1 at *
    dsimp only [gName]
    have small : ∀ n : Nat, n ≤ 30 → -(2 ^ 64) < 2 * (n : Int) + 1 ∧ 2 * (n : Int) + 1 < 2 ^ 64 := fun n hn => ⟨by omega, by omega⟩
    refine ⟨d1, _, h1, True.intro, fun od1 => ?_⟩
    have f1 := @upd_same H1 d1 (.frz od1 (.dK (dk rows x)))
    have l1 : LT H1 (upd H1 d1 (.frz od1 (.dK (dk rows x)))) := LT.dK h1
    have lock1 : ∀ {H5 : Hp}, Same (upd H1 d1 (.frz od1 (.dK (dk rows x)))) H5 → Same H1 (upd H5 d1 (.dK (dk rows x))) := fun {H5} s => lock_same h1 s
    generalize upd H1 d1 (.frz od1 (.dK (dk rows x))) = H2 at *
    refine ⟨_, rfl, d1, od1, _, rfl, f1, fun D nD => dcK_it (walk_items (d := d1) (o := od1) (kvs := dk rows x)) (fun i H' => Same H2 H' ∧ H' D = some (.dK (dk (rows.take i) fun r => x r * unitZ rows + 1))) ⟨same_upd nD, by rw [List.take_zero]; exact upd_same⟩ (fun i H' _ h => h.1 _ _ f1) (fun i v H3 H4 hi h yy => ?_) (fun H3 h => ?_)⟩
    · obtain ⟨s2, eD⟩ := h
      obtain ⟨t, x1, y1, rfl, nt, rfl, ex, ey⟩ := yy
      rw [dk_len] at hi
      have ga : (dk rows x)[i]? = some (.inl ((rows[i]'hi : Nat) : Int), .int (x (rows[i]'hi))) := by
        unfold dk kd
        rw [List.getElem?_map, List.getElem?_eq_getElem hi]
        rfl
      have ex : ((dk rows x)[i]?.map fun kv => kV kv.1) = some x1 := ex
      have ey : ((dk rows x)[i]?.map Prod.snd) = some y1 := ey
      rw [ga] at ex ey
      cases ex
      cases ey
      have st := same_upd (o := .tup [.int ((rows[i]'hi : Nat) : Int), .int (x (rows[i]'hi))]) nt
      refine ⟨t, _, rfl, .inl (.inl upd_same), rfl, _, _, rfl, _, _, rfl, rfl, rfl, ?_⟩
      dsimp only [tYes]
      rw [if_pos rfl]
      refine ⟨_, rfl, _, rfl, _, rfl, _, _, rfl, rfl, .inr (small _ lr), _, _, rfl, rfl, _, .inl ((rows[i]'hi : Nat) : Int), rfl, st _ _ eD, small1000 (by rw [dk_len, List.length_take]; omega), same_over (s2.trans st) nD, ?_⟩
      have nin : rows[i]'hi ∉ rows.take i := fun z => by
        obtain ⟨j, hj⟩ := List.getElem?_of_mem z
        have jl := (List.getElem?_eq_some_iff.mp hj).1
        rw [List.length_take] at jl
        rw [List.getElem?_take, if_pos (by omega)] at hj
        have := (List.getElem?_inj (by omega) nr).mp (hj.trans (List.getElem?_eq_getElem hi).symm)
        omega
      rw [upd_same, dk_new nin, List.take_add_one, List.getElem?_eq_getElem hi]
      congr 2
      refine kd_congr fun r _ => ?_
      show V.int (if r = rows[i]'hi then x (rows[i]'hi) * unitZ rows + 1 else x r * unitZ rows + 1) = V.int (x r * unitZ rows + 1)
      by_cases e : r = rows[i]'hi
      · rw [if_pos e, e]
      · rw [if_neg e]
    obtain ⟨s3, eD⟩ := h
    rw [dk_len, List.take_length] at eD
    have d1D : D ≠ d1 := fun z => by rw [z, f1] at nD; cases nD
    refine ⟨s3 _ _ f1, ?_⟩
    have s13 := lock1 s3
    have eD := (upd_ne d1D (o := .dK (dk rows x))).trans eD
    have h2 := s13 _ _ h2
    have hC := hC.mono s13
    generalize hH5 : upd H3 d1 (.dK (dk rows x)) = H5 at *
    clear f1 l1 lock1
    dsimp only [gName]
    refine ⟨d2, _, h2, True.intro, fun od2 => ?_⟩
    have f2 := @upd_same H5 d2 (.frz od2 (.dK (dk cols y)))
    have lock2 : ∀ {H6 : Hp}, Same (upd H5 d2 (.frz od2 (.dK (dk cols y)))) H6 → Same H5 (upd H6 d2 (.dK (dk cols y))) := fun {H6} s => lock_same h2 s
    have eDf : (upd H5 d2 (.frz od2 (.dK (dk cols y)))) D = none → D = d2 := fun z => Classical.byContradiction fun ne => by
      rw [upd_ne ne, eD] at z
      cases z
    have eDn : ∀ b, (upd H5 d2 (.frz od2 (.dK (dk cols y)))) b = none → H5 b = none ∧ b ≠ d2 := fun b z => by
      have ne : b ≠ d2 := fun e => by rw [e, upd_same] at z; cases z
      exact ⟨by rw [upd_ne ne] at z; exact z, ne⟩
    generalize upd H5 d2 (.frz od2 (.dK (dk cols y))) = H6 at *
    refine ⟨_, rfl, d2, od2, _, rfl, f2, fun D2 nD2 => dcK_it (walk_items (d := d2) (o := od2) (kvs := dk cols y)) (fun i H' => Same H6 H' ∧ H' D2 = some (.dK (dk (cols.take i) fun r => y r * unitZ rows))) ⟨same_upd nD2, by rw [List.take_zero]; exact upd_same⟩ (fun i H' _ h => h.1 _ _ f2) (fun i v H7 H8 hi h yy => ?_) (fun H7 h => ?_)⟩
    · obtain ⟨s2, eD⟩ := h
      obtain ⟨t, x1, y1, rfl, nt, rfl, ex, ey⟩ := yy
      rw [dk_len] at hi
      have ga : (dk cols y)[i]? = some (.inl ((cols[i]'hi : Nat) : Int), .int (y (cols[i]'hi))) := by
        unfold dk kd
        rw [List.getElem?_map, List.getElem?_eq_getElem hi]
        rfl
      have ex : ((dk cols y)[i]?.map fun kv => kV kv.1) = some x1 := ex
      have ey : ((dk cols y)[i]?.map Prod.snd) = some y1 := ey
      rw [ga] at ex ey
      cases ex
      cases ey
      have st := same_upd (o := .tup [.int ((cols[i]'hi : Nat) : Int), .int (y (cols[i]'hi))]) nt
      refine ⟨t, _, rfl, .inl (.inl upd_same), rfl, _, _, rfl, _, _, rfl, rfl, rfl, ?_⟩
      dsimp only [tYes]
      rw [if_pos rfl]
      refine ⟨_, rfl, _, rfl, _, rfl, _, _, rfl, rfl, .inr (small _ lr), _, .inl ((cols[i]'hi : Nat) : Int), rfl, st _ _ eD, small1000 (by rw [dk_len, List.length_take]; omega), same_over (s2.trans st) nD2, ?_⟩
      have nin : cols[i]'hi ∉ cols.take i := fun z => by
        obtain ⟨j, hj⟩ := List.getElem?_of_mem z
        have jl := (List.getElem?_eq_some_iff.mp hj).1
        rw [List.length_take] at jl
        rw [List.getElem?_take, if_pos (by omega)] at hj
        have := (List.getElem?_inj (by omega) nc).mp (hj.trans (List.getElem?_eq_getElem hi).symm)
        omega
      rw [upd_same, dk_new nin, List.take_add_one, List.getElem?_eq_getElem hi]
      congr 2
      refine kd_congr fun r _ => ?_
      show V.int (if r = cols[i]'hi then y (cols[i]'hi) * unitZ rows else y r * unitZ rows) = V.int (y r * unitZ rows)
      by_cases e : r = cols[i]'hi
      · rw [if_pos e, e]
      · rw [if_neg e]
    obtain ⟨s7, eD2⟩ := h
    rw [dk_len, List.take_length] at eD2
    obtain ⟨nD5, d2D⟩ := eDn _ nD2
    refine ⟨s7 _ _ f2, ?_⟩
    have s57 := lock2 s7
    have eD2 := (upd_ne d2D (o := .dK (dk cols y))).trans eD2
    have eD7 := s57 _ _ eD
    have DD : D ≠ D2 := fun z => by rw [z, nD5] at eD; cases eD
    have s07 := x1.trans (s13.trans s57)
    have nDH := none_same (x1.trans s13) nD5
    have hC7 := hC.mono s57
    generalize upd H7 d2 (.dK (dk cols y)) = H9 at *
    dsimp only [gName]
    refine ⟨_, rfl, _, rfl, D2, _, rfl, dgK eD2 hl, _, rfl, _, _, rfl, rfl, _, DPut.k (k := .inl (last : Int)) eD2 (small1000 (by rw [dk_len]; omega)), ?_⟩
    rw [dk_put hl]
    have sA := same_over (o := .dK (dk cols fun c => if c = last then y last * unitZ rows + (rows.length : Int) else y c * unitZ rows)) s07 nDH
    have lA : LT H9 (upd H9 D2 (.dK (dk cols fun c => if c = last then y last * unitZ rows + (rows.length : Int) else y c * unitZ rows))) := LT.dK eD2
    have es : sup (fun r => x r * unitZ rows + 1) (fun c => if c = last then y last * unitZ rows + (rows.length : Int) else y c * unitZ rows) = sFirst rows x y last := by
      funext v
      cases v with
      | row r =>
        show x r * unitZ rows + 1 = unitZ rows * x r + 1
        rw [Int.mul_comm]
      | col c =>
        show (if c = last then y last * unitZ rows + (rows.length : Int) else y c * unitZ rows) = unitZ rows * y c + (if c = last then (rows.length : Int) else 0)
        by_cases e : c = last
        · rw [if_pos e, if_pos e, e, Int.mul_comm]
        · rw [if_neg e, if_neg e, Int.mul_comm]; omega
    have u0 : 0 < unitZ rows := by unfold unitZ; omega
    have pos' : ∀ v ∈ plc rows cols, 0 < sFirst rows x y last v := fun v hv => by
      have p1 := Int.mul_pos u0 (pos v hv)
      have p2 : 0 ≤ bit rows.length last v := by
        cases v with
        | row r => show (0 : Int) ≤ 1; decide
        | col c =>
          show (0 : Int) ≤ (if c = last then (rows.length : Int) else 0)
          split <;> omega
      unfold sFirst
      omega
    have vnd := plc_nodup nr nc
    have vne : plc rows cols ≠ [] := fun z => by
      obtain ⟨r, hr'⟩ := List.exists_mem_of_ne_nil rows rne
      have : Nd.row r ∈ plc rows cols := row_plc.mpr hr'
      rw [z] at this
      cases this
    refine ⟨_, rfl, _, rfl, _, rfl, cv, D, D2, M, N, C, rows, cols, _, _, rfl, hC7.lt lA, DD, (upd_ne DD).trans eD7, upd_same, nr, nc, rne, lr, lc, rM, cN, ?_, ?_, fun H' tr t ntr s et F ps tn len => ?_⟩
    · rw [es]; exact pos'
    · rw [es]; exact tot_first nc hl tot
    · rw [es] at F
      refine q H' tr t last hl (none_same sA ntr) (sA.trans s) et ⟨F, ps, tn, ?_⟩
      have := conn_len vnd vne (conn_of vnd (nd_first nr nc hl pos tot) F)
      rw [List.length_map] at this
      omega
end

end Fb

namespace Fb
open PySem PySem.Spec PyProof.Rows L2
section
variable {P : Program} {w : World} {K : PySem.W.Frag} {mg : Str → Option Value} {base : Heap}
/-! ### a tree hung up -/
def PathIs (H : Hp) (la : Addr) (l : List Wy) : Prop := ∃ us, H la = some (.lst us) ∧ AllAre (IsWy H) us l
theorem PathIs.lt {H H' : Hp} {la : Addr} {l : List Wy} (h : PathIs H la l) (k : LT H H') : PathIs H' la l := by
  obtain ⟨us, h1, h2⟩ := h
  exact ⟨us, (k _ _).1 h1, h2.imp fun _ _ h => h.lt k⟩
theorem LT.hid {H H' : Hp} (h : LT H H') (a : Addr) : LT (Fb.hid a H) (Fb.hid a H') := fun b xs => by
  by_cases c : b = a
  · subst c
    rw [hid_self]
    exact ⟨nofun, nofun⟩
  · rw [hid_ne c, hid_ne c]
    exact h b xs
def HgAt (C : Wy → Int) (root : Nat) (h : Hg) (H : Hp) (a b u d : Addr) : Prop := ∃ (hr hc : List Nat) (U D : Nat → V), hr.Nodup ∧ hc.Nodup ∧ (∀ r, r ∈ hr ↔ Nd.row r ∈ nds root h) ∧ (∀ c, c ∈ hc ↔ Nd.col c ∈ nds root h) ∧
  H a = some (.dK (dk hr fun r => pr C h (.row r))) ∧ H b = some (.dK (dk hc fun c => pr C h (.col c))) ∧ H u = some (.dK (kd hr U)) ∧ H d = some (.dK (kd hc D)) ∧
  (∀ r ∈ hr, ∃ la, U r = .ref la ∧ PathIs H la (pth h (.row r))) ∧ ∀ c ∈ hc, ∃ la, D c = .ref la ∧ PathIs H la (pth h (.col c))
theorem HgAt.same {C : Wy → Int} {root : Nat} {h : Hg} {H H' : Hp} {a b u d : Addr} (x : HgAt C root h H a b u d) (s : Same H H') : HgAt C root h H' a b u d := by
  obtain ⟨hr, hc, U, D, h1, h2, h3, h4, h5, h6, h7, h8, h9, h10⟩ := x
  exact ⟨hr, hc, U, D, h1, h2, h3, h4, s _ _ h5, s _ _ h6, s _ _ h7, s _ _ h8, fun r hr => let ⟨la, e, p⟩ := h9 r hr; ⟨la, e, p.lt (.of s)⟩, fun r hr => let ⟨la, e, p⟩ := h10 r hr; ⟨la, e, p.lt (.of s)⟩⟩
theorem dgV {H : Hp} {d : Addr} {l : List Nat} {f : Nat → V} {r : Nat} (e : H d = some (.dK (kd l f))) (h : r ∈ l) : DGet H d (.int (r : Nat)) (some (f r)) := by
  have := DGet.k (k := .inl (r : Int)) e
  rwa [kd_val h] at this
theorem dgN {H : Hp} {d : Addr} {l : List Nat} {f : Nat → V} {r : Nat} (e : H d = some (.dK (kd l f))) (h : r ∉ l) : DGet H d (.int (r : Nat)) none := by
  have := DGet.k (k := .inl (r : Int)) e
  rwa [kd_no h] at this
theorem few_nds {root : Nat} {h : Hg} {l : List Nat} (nl : l.Nodup) (f : Nat → Nd) (inj : ∀ a b, f a = f b → a = b) (k : ∀ r ∈ l, f r ∈ nds root h) : l.length ≤ (wys h).length + 1 := by
  have := sub_len (V := l.map f) (S := nds root h) (List.Pairwise.map _ (fun a b ne e => ne (inj a b e)) nl) fun v hv => by
    obtain ⟨r, hr, rfl⟩ := List.mem_map.mp hv
    exact k r hr
  rw [List.length_map, nds_len] at this
  exact this
/-- a column is hung up by a row -/
theorem HgAt.col {C : Wy → Int} {root : Nat} {h : Hg} {H' : Hp} {a b u d : Addr} {r c : Nat} {hr hc : List Nat} {U D : Nat → V} {l2 : Addr} (nr : hr.Nodup) (nc : hc.Nodup) (ir : ∀ r, r ∈ hr ↔ Nd.row r ∈ nds root h) (ic : ∀ c, c ∈ hc ↔ Nd.col c ∈ nds root h) (hrr : r ∈ hr) (hcc : c ∉ hc)
    (e1 : H' a = some (.dK (dk hr fun r => pr C h (.row r)))) (e2 : H' b = some (.dK (putK (dk hc fun c => pr C h (.col c)) (.inl (c : Int)) (.int (pr C h (.row r) - C (r, c)))))) (e3 : H' u = some (.dK (kd hr U))) (e4 : H' d = some (.dK (putK (kd hc D) (.inl (c : Int)) (.ref l2))))
    (pu : ∀ r ∈ hr, ∃ la, U r = .ref la ∧ PathIs H' la (pth h (.row r))) (pd : ∀ c ∈ hc, ∃ la, D c = .ref la ∧ PathIs H' la (pth h (.col c))) (p2 : PathIs H' l2 ((r, c) :: pth h (.row r))) : HgAt C root ((.col c, (r, c)) :: h) H' a b u d := by
  rw [dk_new hcc] at e2
  rw [kd_new hcc] at e4
  have ncn : Nd.col c ∉ nds root h := fun z => hcc ((ic c).mpr z)
  have po : ∀ x : Nd, x ≠ .col c → pr C ((.col c, (r, c)) :: h) x = pr C h x := fun x e => if_neg e
  have pn : pr C ((.col c, (r, c)) :: h) (.col c) = pr C h (.row r) - C (r, c) := if_pos rfl
  refine ⟨hr, hc ++ [c], U, _, nr, List.nodup_append.mpr ⟨nc, List.nodup_cons.mpr ⟨by simp, List.nodup_nil⟩, fun x hx y hy e => hcc ((List.mem_singleton.mp hy) ▸ e ▸ hx)⟩, fun r' => ?_, fun c' => ?_, ?_, ?_, e3, e4, fun r' hr' => ?_, fun c' hc' => ?_⟩
  · rw [nds_cons, ir r']
    exact ⟨.inr, fun h => h.resolve_left nofun⟩
  · rw [nds_cons, List.mem_append, ic c', List.mem_singleton]
    exact ⟨fun h => h.elim .inr fun e => .inl (by rw [e]), fun h => h.elim (fun e => .inr (Nd.col.inj e)) .inl⟩
  · rw [e1]
    exact congrArg (fun z => some (HO.dK z)) (kd_congr fun x _ => rfl)
  · rw [e2]
    congr 2
    refine kd_congr fun x _ => ?_
    show V.int (if x = c then pr C h (.row r) - C (r, c) else pr C h (.col x)) = V.int (pr C ((.col c, (r, c)) :: h) (.col x))
    by_cases e : x = c
    · rw [if_pos e, e, pn]
    · rw [if_neg e, po _ fun z => e (Nd.col.inj z)]
  · rw [pth_old (show Nd.row r' ≠ .col c from nofun)]
    exact pu r' hr'
  · by_cases e : c' = c
    · subst e
      refine ⟨l2, if_pos rfl, ?_⟩
      rw [pth_new]
      exact p2
    · rw [pth_old (fun z => e (Nd.col.inj z))]
      obtain ⟨la, e1, e2⟩ := pd c' ((List.mem_append.mp hc').resolve_right fun z => e (List.mem_singleton.mp z))
      exact ⟨la, (if_neg e).trans e1, e2⟩
theorem HgAt.row {C : Wy → Int} {root : Nat} {h : Hg} {H' : Hp} {a b u d : Addr} {r c : Nat} {hr hc : List Nat} {U D : Nat → V} {l2 : Addr} (nr : hr.Nodup) (nc : hc.Nodup) (ir : ∀ r, r ∈ hr ↔ Nd.row r ∈ nds root h) (ic : ∀ c, c ∈ hc ↔ Nd.col c ∈ nds root h) (hcc : c ∈ hc) (hrr : r ∉ hr)
    (e1 : H' a = some (.dK (putK (dk hr fun r => pr C h (.row r)) (.inl (r : Int)) (.int (pr C h (.col c) + C (r, c)))))) (e2 : H' b = some (.dK (dk hc fun c => pr C h (.col c)))) (e3 : H' u = some (.dK (putK (kd hr U) (.inl (r : Int)) (.ref l2)))) (e4 : H' d = some (.dK (kd hc D)))
    (pu : ∀ r ∈ hr, ∃ la, U r = .ref la ∧ PathIs H' la (pth h (.row r))) (pd : ∀ c ∈ hc, ∃ la, D c = .ref la ∧ PathIs H' la (pth h (.col c))) (p2 : PathIs H' l2 ((r, c) :: pth h (.col c))) : HgAt C root ((.row r, (r, c)) :: h) H' a b u d := by
  rw [dk_new hrr] at e1
  rw [kd_new hrr] at e3
  have po : ∀ x : Nd, x ≠ .row r → pr C ((.row r, (r, c)) :: h) x = pr C h x := fun x e => if_neg e
  have pn : pr C ((.row r, (r, c)) :: h) (.row r) = pr C h (.col c) + C (r, c) := if_pos rfl
  refine ⟨hr ++ [r], hc, _, D, List.nodup_append.mpr ⟨nr, List.nodup_cons.mpr ⟨by simp, List.nodup_nil⟩, fun x hx y hy e => hrr ((List.mem_singleton.mp hy) ▸ e ▸ hx)⟩, nc, fun r' => ?_, fun c' => ?_, ?_, ?_, e3, e4, fun r' hr' => ?_, fun c' hc' => ?_⟩
  · rw [nds_cons, List.mem_append, ir r', List.mem_singleton]
    exact ⟨fun h => h.elim .inr fun e => .inl (by rw [e]), fun h => h.elim (fun e => .inr (Nd.row.inj e)) .inl⟩
  · rw [nds_cons, ic c']
    exact ⟨.inr, fun h => h.resolve_left nofun⟩
  · rw [e1]
    congr 2
    refine kd_congr fun x _ => ?_
    show V.int (if x = r then pr C h (.col c) + C (r, c) else pr C h (.row x)) = V.int (pr C ((.row r, (r, c)) :: h) (.row x))
    by_cases e : x = r
    · rw [if_pos e, e, pn]
    · rw [if_neg e, po _ fun z => e (Nd.row.inj z)]
  · rw [e2]
    exact congrArg (fun z => some (HO.dK z)) (kd_congr fun x _ => rfl)
  · by_cases e : r' = r
    · subst e
      refine ⟨l2, if_pos rfl, ?_⟩
      rw [pth_new]
      exact p2
    · rw [pth_old (fun z => e (Nd.row.inj z))]
      obtain ⟨la, e1, e2⟩ := pu r' ((List.mem_append.mp hr').resolve_right fun z => e (List.mem_singleton.mp z))
      exact ⟨la, (if_neg e).trans e1, e2⟩
  · rw [pth_old (show Nd.col c' ≠ .row r from nofun)]
    exact pd c' hc'
def HangIs (C : Wy → Int) (rows cols : List Nat) (t : List (Wy × Int)) (H : Hp) (p : Addr) (root : Nat) (h : Hg) : Prop := ∃ a b u d, a ≠ b ∧ H p = some (.tup [.ref a, .ref b, .ref u, .ref d]) ∧ HT root h ∧ (t.map (·.1)).Perm (wys h) ∧ HgAt C root h H a b u d ∧ (∀ r, Nd.row r ∈ nds root h ↔ r ∈ rows) ∧ ∀ c, Nd.col c ∈ nds root h ↔ c ∈ cols
theorem keys_are {H : Hp} : ∀ {t : List (Wy × Int)} {bs : List Addr}, IsKeys H (tk t) bs → AllAre (IsWy H) (bs.map V.ref) (t.map (·.1))
  | [], _, .nil => .nil
  | p :: t, _, .cons h k => .cons ⟨_, rfl, h⟩ (keys_are (t := t) k)
def spHang (K : PySem.W.Frag) : Sp := fun vs H Q _ => ∃ (cv : V) (tr : Addr) (M N : Nat) (C : Wy → Int) (rows cols : List Nat) (s : Nd → Int) (t : List (Wy × Int)), vs = [cv, .ref tr] ∧ Costs H cv M N C ∧ H tr = some (.dT (tk t)) ∧ Tree rows cols s t ∧ Nondeg (plc rows cols) s ∧
  rows.Nodup ∧ cols.Nodup ∧ rows ≠ [] ∧ cols ≠ [] ∧ rows.length ≤ 30 ∧ cols.length ≤ 30 ∧ (∀ r ∈ rows, r < M) ∧ (∀ c ∈ cols, c < N) ∧
  ∀ H' p root h, Same H H' → HangIs C rows cols t H' p root h → Q (.ref p) H'
set_option maxHeartbeats 1600000 in
theorem ok_p_hang (T : Txt K mg) : FnOk P w K mg base CX0 1 T.f_p_hang T.d_p_hang ["costs", "tree"] (spHang K) := by
  refine T.F_p_hang.ok sc_p_hang (fun vs H Q E h => ?_) (fun cdv A outer s H vs Q E hr h => ?_)
  · obtain ⟨cv, tr, M, N, C, rows, cols, s, t, rfl, _⟩ := h
    rfl
  · obtain ⟨cv, tr, M, N, C, rows, cols, s, t, rfl, hC, ht, Tr, nd, nr, nc, rne, cne, lr, lc, rM, cN, q⟩ := h
    refine ⟨_, (pss_cons (ps_set (i := 2) sc_p_hang.nd rfl (.inl rfl) (pe_callB (cr_min rfl) (by rfl) T.z_min (by decide +kernel) (pa_cons (pe_lock (pe_lc (own := [("row", 9), ("column", 10)]) (g := (gTup K 2 (gCons (gName 9) (gCons (gName 10) gNil)))) (tt := tYes) (by rfl) sc_p_hang.nd (pi_keys (pv 1)) (blkOk_by (own := [("row", 9), ("column", 10)]) (N := ["costs", "tree", "root", "here", "there", "ups", "downs", "waiting", "later", "row", "column"]) (sc := defScope s_p_hang) (by decide +kernel)) (fun _ _ _ _ _ => by exact (pg_tup (by rfl) (pgs_cons (pg_name (i := 9) sc_p_hang.nd rfl (.inl rfl)) (pgs_cons (pg_name (i := 10) sc_p_hang.nd rfl (.inl rfl)) pgs_nil)))) (fun _ _ _ _ _ => by exact pts_nil) (fun _ _ _ _ _ => by exact (pv 9)))) pa_nil)))
 (pss_cons (ps_set (i := 3) sc_p_hang.nd rfl (.inl rfl) (pe_disp (pps_cons (pv 2) pe_int pps_nil) (by rfl) (by rfl) (fun z => by cases z) (by decide)))
 (pss_cons (ps_set (i := 4) sc_p_hang.nd rfl (.inl rfl) pe_dnewK)
 (pss_cons (ps_set (i := 5) sc_p_hang.nd rfl (.inl rfl) (pe_disp (pps_cons (pv 2) (pe_lst pa_nil) pps_nil) (by rfl) (by rfl) (fun z => by cases z) (by decide)))
 (pss_cons (ps_set (i := 6) sc_p_hang.nd rfl (.inl rfl) pe_dnewK)
 (pss_cons (ps_set (i := 7) sc_p_hang.nd rfl (.inl rfl) (pe_callTy (call_list_dT rfl) (by rfl) T.z_list (by decide +kernel) (pa_cons (pv 1) pa_nil)))
 (pss_cons (ps_while PassesOwn.never (pt_truth (pv 7) (fun _ => rfl))
  (pss_cons (ps_set (i := 8) sc_p_hang.nd rfl (.inl rfl) (pe_lst pa_nil))
 (pss_cons (ps_for PassesOwn.never rfl (pi_list (pv 7)) (pg_tup (by rfl) (pgs_cons (pg_name (i := 9) sc_p_hang.nd rfl (.inl rfl)) (pgs_cons (pg_name (i := 10) sc_p_hang.nd rfl (.inl rfl)) pgs_nil)))
  (pss_one (ps_if (pt_cmp (pc_din (units1 hr.units) (pv 9) (pv 3)) (by with_unfolding_all rfl))
  (pss_cons (ps_dput (units1 hr.units) (pv 4) (pv 10) (pe_op op_sub (pe_dget (units1 hr.units) (pv 3) (pv 9) (fun _ _ => rfl)) (pe_ix ix_list (pe_ix ix_list (pv 0) (pv 9) (fun _ _ => rfl)) (pv 10) (fun _ _ => rfl))) rfl)
 (pss_one (ps_dput (units1 hr.units) (pv 6) (pv 10) (pe_op op_cat (pe_lst (pa_cons (pe_tup (pa_cons (pv 9) (pa_cons (pv 10) pa_nil))) pa_nil)) (pe_dget (units1 hr.units) (pv 5) (pv 9) (fun _ _ => rfl))) rfl)))
  (pss_one (ps_if (pt_cmp (pc_din (units1 hr.units) (pv 10) (pv 4)) (by with_unfolding_all rfl))
  (pss_cons (ps_dput (units1 hr.units) (pv 3) (pv 9) (pe_op op_add (pe_dget (units1 hr.units) (pv 4) (pv 10) (fun _ _ => rfl)) (pe_ix ix_list (pe_ix ix_list (pv 0) (pv 9) (fun _ _ => rfl)) (pv 10) (fun _ _ => rfl))) rfl)
 (pss_one (ps_dput (units1 hr.units) (pv 5) (pv 9) (pe_op op_cat (pe_lst (pa_cons (pe_tup (pa_cons (pv 9) (pa_cons (pv 10) pa_nil))) pa_nil)) (pe_dget (units1 hr.units) (pv 6) (pv 10) (fun _ _ => rfl))) rfl)))
  (pss_one (ps_expr (pe_bm PySem.F.plainAttrs_list PySem.F.slot_list_append PySem.F.type_list_append mt_append (pv 8) (pa_cons (pe_tup (pa_cons (pv 9) (pa_cons (pv 10) pa_nil))) pa_nil)))))))))
 (pss_one (ps_set (i := 7) sc_p_hang.nd rfl (.inl rfl) (pv 8))))))
 (pss_one (ps_ret (pe_tup (pa_cons (pv 3) (pa_cons (pv 4) (pa_cons (pv 5) (pa_cons (pv 6) pa_nil)))))))))))))), ?_⟩
    have vnd := plc_nodup nr nc
    have vl : (plc rows cols).length = rows.length + cols.length := by unfold plc; rw [List.length_append, List.length_map, List.length_map]
    have tl := Tr.len
    have cn := conn_of vnd nd Tr.feas
    have en : ∀ w ∈ t.map (·.1), Nd.row w.1 ∈ plc rows cols ∧ Nd.col w.2 ∈ plc rows cols := fun w hw => by
      obtain ⟨p, hp, rfl⟩ := List.mem_map.mp hw
      exact Tr.feas.1 p hp
    have tpos : 0 < t.length := by
      have := List.length_pos_iff.mpr rne
      have := List.length_pos_iff.mpr cne
      omega
    -- the root
    refine ⟨tr, _, ht, True.intro, fun od => ?_⟩
    have f1 := @upd_same H tr (.frz od (.dT (tk t)))
    have lock1 : ∀ {H5 : Hp}, Same (upd H tr (.frz od (.dT (tk t)))) H5 → Same H (upd H5 tr (.dT (tk t))) := fun {H5} s => lock_same ht s
    generalize upd H tr (.frz od (.dT (tk t))) = H1 at *
    refine ⟨_, rfl, tr, od, rfl, .inr ⟨_, f1, fun D nD => lc_allW (walk_keysT (d := tr) (o := od) (kvs := tk t)) (fun i y _ => ∃ p, t[i]? = some p ∧ y = .int (p.1.1 : Nat)) (fun _ _ _ _ _ h => h) nD (fun H' s => s _ _ f1) (by rw [tk_len]; omega) (fun i x H2 H3 kk hi s2 eD y hk => ?_) (fun H2 ys s2 e2 l2 r2 => ?_)⟩⟩
    · obtain ⟨rfl, k, v, q0, hk', rfl, hq⟩ := y
      unfold tk at hk'
      rw [List.getElem?_map] at hk'
      obtain ⟨p, hp, e⟩ := Option.map_eq_some_iff.mp hk'
      cases e
      exact ⟨q0, _, rfl, .inl (.inl hq), rfl, _, _, rfl, _, _, rfl, rfl, rfl, _, rfl, hk _ _ (Same.refl _) ⟨p, hp, rfl⟩⟩
    have s12 := s2.trans hid_same
    refine ⟨s12 _ _ f1, ?_⟩
    have s02 := lock1 s12
    have Dt : D ≠ tr := fun z => by rw [z, f1] at nD; cases nD
    have eD := (upd_ne Dt (o := .dT (tk t))).trans e2
    generalize upd H2 tr (.dT (tk t)) = H4 at *
    rw [tk_len] at l2
    have ey : ys = (t.map fun p => (p.1.1 : Int)).map V.int := by
      refine List.ext_getElem? fun i => ?_
      rw [List.getElem?_map, List.getElem?_map]
      cases hy : ys[i]? with
      | none =>
        have := List.getElem?_eq_none_iff.mp hy
        rw [List.getElem?_eq_none (by omega)]
        rfl
      | some y =>
        obtain ⟨p, hp, rfl⟩ := r2 i y hy
        rw [hp]
        rfl
    rw [ey] at eD
    refine ⟨D, _, rfl, SqL.of eD, by rw [List.length_map]; exact tpos, fun mr hmr _ => ?_⟩
    obtain ⟨p0, hp0, rfl⟩ := List.mem_map.mp hmr
    obtain ⟨root, hroot⟩ : ∃ root, root = p0.1.1 := ⟨_, rfl⟩
    rw [← hroot]
    have rR : root ∈ rows := by rw [hroot]; exact row_plc.mp (Tr.feas.1 _ hp0).1
    have rV : Nd.row root ∈ plc rows cols := row_plc.mpr rR
    clear hmr hp0 hroot ey r2 e2 eD Dt f1 lock1 nD s12 s2 l2
    dsimp only [gName]
    -- the dicts
    refine fun a na => ⟨_, rfl, upd_same, [(.inl (root : Int), .int 0)], rfl, by show 1 ≤ 15; decide, ?_⟩
    have sa := same_over (o := .dK (mergeK [] [((.inl (root : Int) : Key), V.int 0)])) (same_upd (o := .dK []) na) na
    have ea := @upd_same (upd H4 a (.dK [])) a (.dK (mergeK [] [((.inl (root : Int) : Key), V.int 0)]))
    have naH := none_same s02 na
    have s05 := s02.trans sa
    generalize upd (upd H4 a (.dK [])) a (.dK (mergeK [] [((.inl (root : Int) : Key), V.int 0)])) = H5 at *
    refine fun b nb => ?_
    have sb := same_upd (o := .dK []) nb
    have eb := @upd_same H5 b (.dK [])
    have nbH := none_same s05 nb
    have ab : a ≠ b := fun z => by rw [← z, ea] at nb; cases nb
    have ea := sb _ _ ea
    have s06 := s05.trans sb
    generalize upd H5 b (.dK []) = H6 at *
    refine fun u nu => ⟨_, rfl, by show 0 ≤ sizeLine; decide, fun l0 nl0 => ⟨?_, [(.inl (root : Int), .ref l0)], rfl, by show 1 ≤ 15; decide, ?_⟩⟩
    · rw [upd_ne (fun z => by rw [← z, upd_same] at nl0; cases nl0)]
      exact upd_same
    have lu : l0 ≠ u := fun z => by rw [z, upd_same] at nl0; cases nl0
    have su := same_over (o := .dK (mergeK [] [((.inl (root : Int) : Key), V.ref l0)])) ((same_upd (o := .dK []) nu).trans (same_upd (o := .lst []) nl0)) nu
    have eu := @upd_same (upd (upd H6 u (.dK [])) l0 (.lst [])) u (.dK (mergeK [] [((.inl (root : Int) : Key), V.ref l0)]))
    have el := (upd_ne lu (o := .dK (mergeK [] [((.inl (root : Int) : Key), V.ref l0)]))).trans (@upd_same (upd H6 u (.dK [])) l0 (.lst []))
    have nuH := none_same s06 nu
    have au : a ≠ u := fun z => by rw [← z, ea] at nu; cases nu
    have bu : b ≠ u := fun z => by rw [← z, eb] at nu; cases nu
    have ea := su _ _ ea
    have eb := su _ _ eb
    have s07 := s06.trans su
    generalize upd (upd (upd H6 u (.dK [])) l0 (.lst [])) u (.dK (mergeK [] [((.inl (root : Int) : Key), V.ref l0)])) = H7 at *
    refine fun d ndd => ?_
    have sd := same_upd (o := .dK []) ndd
    have ed := @upd_same H7 d (.dK [])
    have ndH := none_same s07 ndd
    have ad : a ≠ d := fun z => by rw [← z, ea] at ndd; cases ndd
    have bd : b ≠ d := fun z => by rw [← z, eb] at ndd; cases ndd
    have ud : u ≠ d := fun z => by rw [← z, eu] at ndd; cases ndd
    have ea := sd _ _ ea
    have eb := sd _ _ eb
    have eu := sd _ _ eu
    have el := sd _ _ el
    have s08 := s07.trans sd
    generalize upd H7 d (.dK []) = H8 at *
    refine ⟨_, rfl, tr, tk t, rfl, .inl (s08 _ _ ht), fun wl bs nwl kb => ?_⟩
    have sw := same_upd (o := .lst (bs.map V.ref)) nwl
    have ew := @upd_same H8 wl (.lst (bs.map V.ref))
    have ak := (keys_are kb).imp fun _ _ h => IsWy.lt h (.of sw)
    have s09 := s08.trans sw
    have hg0 : HgAt C root [] (upd H8 wl (.lst (bs.map V.ref))) a b u d := by
      refine ⟨[root], [], fun _ => .ref l0, fun _ => .non, List.nodup_cons.mpr ⟨by simp, List.nodup_nil⟩, List.nodup_nil, fun r => ?_, fun c => ?_, sw _ _ ea, sw _ _ eb, sw _ _ eu, sw _ _ ed, fun r _ => ⟨l0, rfl, [], sw _ _ el, .nil⟩, fun c hc => by cases hc⟩
      · simp [nds]
      · simp [nds]
    generalize upd H8 wl (.lst (bs.map V.ref)) = H9 at *
    clear kb nwl sw sd ndd su nu nl0 sb nb sa na ea eb eu ed el lu s08 s07 s06 s05 s02
    dsimp only [gName]
    refine ⟨fun k σ H' => ∃ (wl : Addr) (us : List V) (R : List Wy) (h : Hg) (y8 y9 y10 : Option V), k = R.length ∧ σ = [some cv, some (.ref tr), some (.int (root : Nat)), some (.ref a), some (.ref b), some (.ref u), some (.ref d), some (.ref wl), y8, y9, y10] ∧ HT root h ∧ (t.map (·.1)).Perm (wys h ++ R) ∧ Same H H' ∧ HgAt C root h H' a b u d ∧ H' wl = some (.lst us) ∧ AllAre (IsWy H') us R,
      ⟨_, wl, _, _, [], _, _, _, rfl, rfl, .nil, List.Perm.refl _, s09, hg0, ew, ak⟩, ?_⟩
    clear hg0 ew ak s09
    rintro k σ H' ⟨wl, us, R, h, y8, y9, y10, rfl, rfl, hT, pm, s8, hg, ew, aw⟩
    refine ⟨_, rfl, !us.isEmpty, .inl ⟨us, SqL.of ew, rfl⟩, ?_⟩
    by_cases hR : R = []
    · subst hR
      have us0 : us = [] := List.length_eq_zero_iff.mp aw.1
      subst us0
      rw [List.append_nil] at pm
      have up := all_up cn hT rV pm
      have dn := nds_in en hT rV fun w hw => pm.mem_iff.mpr hw
      refine iteF ⟨_, rfl, _, rfl, _, rfl, _, rfl, by show 4 ≤ sizeLine; decide, fun p np => ?_⟩
      have sp := same_upd (o := .tup [.ref a, .ref b, .ref u, .ref d]) np
      exact q _ p root h (s8.trans sp) ⟨a, b, u, d, ab, upd_same, hT, pm, hg.same sp, fun r => ⟨fun z => row_plc.mp (dn _ z), fun z => up _ (row_plc.mpr z)⟩, fun c => ⟨fun z => col_plc.mp (dn _ z), fun z => up _ (col_plc.mpr z)⟩⟩
    · have usn : (!us.isEmpty) = true := by
        cases us with
        | nil => exact absurd (List.length_eq_zero_iff.mp aw.1.symm) hR
        | cons x l => rfl
      rw [usn]
      refine iteT ⟨fun σ2 H2 => ∃ (wl : Addr) (us : List V) (R' : List Wy) (h : Hg) (y8 y9 y10 : Option V), R'.length < R.length ∧ σ2 = [some cv, some (.ref tr), some (.int (root : Nat)), some (.ref a), some (.ref b), some (.ref u), some (.ref d), some (.ref wl), y8, y9, y10] ∧ HT root h ∧ (t.map (·.1)).Perm (wys h ++ R') ∧ Same H H2 ∧ HgAt C root h H2 a b u d ∧ H2 wl = some (.lst us) ∧ AllAre (IsWy H2) us R', ?_, ?_⟩
      · rintro σ2 H2 ⟨wl, us, R', h, y8, y9, y10, lt, r⟩
        exact ⟨R'.length, lt, wl, us, R', h, y8, y9, y10, rfl, r⟩
      refine ⟨by show 0 ≤ sizeLine; decide, fun lt nlt => ?_⟩
      have hl : hid lt (upd H' lt (.lst [])) = hid lt H' := hid_upd
      have sHid : Same H' (hid lt H') := fun x o e => by rw [hid_ne (ne_of_none e nlt)]; exact e
      have elt := @upd_same H' lt (.lst [])
      have nltH := none_same s8 nlt
      have g0 : HgAt C root h (hid lt (upd H' lt (.lst []))) a b u d := by rw [hl]; exact hg.same sHid
      have w0 : hid lt (upd H' lt (.lst [])) wl = some (.lst us) := by rw [hl]; exact sHid _ _ ew
      have a0 : AllAre (IsWy (hid lt (upd H' lt (.lst [])))) us R := by rw [hl]; exact aw.imp fun _ _ h => h.lt (.of sHid)
      have t0 : Same H (hid lt (upd H' lt (.lst []))) := by rw [hl]; exact s8.trans sHid
      generalize upd H' lt (.lst []) = Hb at *
      clear hg ew aw s8 sHid hl nlt
      have hC0 := hC
      dsimp only [gName]
      have rlen : R.length ≤ 60 := by
        have := pm.length_eq
        rw [List.length_append, List.length_map] at this
        omega
      refine ⟨_, rfl, wl, rfl, ⟨_, SqL.of (hid_same _ _ w0)⟩, for_list (K := K) (a := wl) (xs := us) (fun i σ H' => ∃ (h' : Hg) (ls : List V) (R' : List Wy) (y9 y10 : Option V), σ = [some cv, some (.ref tr), some (.int (root : Nat)), some (.ref a), some (.ref b), some (.ref u), some (.ref d), some (.ref wl), some (.ref lt), y9, y10] ∧ HT root h' ∧ (∀ v, v ∈ nds root h → v ∈ nds root h') ∧
          (t.map (·.1)).Perm (wys h' ++ (R.drop i ++ R')) ∧ Same H (hid lt H') ∧ HgAt C root h' (hid lt H') a b u d ∧ (hid lt H') wl = some (.lst us) ∧ AllAre (IsWy (hid lt H')) us R ∧ H' lt = some (.lst ls) ∧ AllAre (IsWy (hid lt H')) ls R' ∧ R'.length ≤ i ∧
          ∀ (j : Nat) (w : Wy), j < i → R[j]? = some w → (Nd.row w.1 ∈ nds root h ∨ Nd.col w.2 ∈ nds root h) → R'.length < i) ⟨h, [], [], _, _, rfl, hT, fun _ z => z, by rw [List.drop_zero, List.append_nil]; exact pm, t0, g0, w0, a0, elt, .nil, Nat.le_refl _, fun j w hj => absurd hj (Nat.not_lt_zero _)⟩ (fun i σ H' _ h => ?_) (fun i x σ H' hx hh => ?_) (fun σ H' hh => ?_)⟩
      · obtain ⟨_, _, _, _, _, _, _, _, _, _, _, w1, _⟩ := h
        exact SqL.of (hid_same _ _ w1)
      · obtain ⟨h', ls, R', y9, y10, rfl, hT', mono, pm', s8, hg, ew, aw, el, al, r1, r2⟩ := hh
        obtain ⟨w, hw, q0, rfl, hq⟩ := aw.at hx
        have il := (List.getElem?_eq_some_iff.mp hw).1
        have dr : R.drop i = w :: R.drop (i + 1) := by
          rw [List.drop_eq_getElem_cons il]
          congr 1
          exact (List.getElem?_eq_some_iff.mp hw).2
        rw [dr] at pm'
        have win : w ∈ t.map (·.1) := pm'.mem_iff.mpr (List.mem_append_right _ (List.mem_append_left _ List.mem_cons_self))
        have wr : w.1 ∈ rows := row_plc.mp (en w win).1
        have wc : w.2 ∈ cols := col_plc.mp (en w win).2
        have fe := fresh_end vnd cn (by rw [List.length_map]; omega) hT' rV (R := R.drop (i + 1) ++ R') pm'
        have wlen : (wys h').length ≤ 60 := by
          have := pm'.length_eq
          rw [List.length_append, List.length_map] at this
          omega
        refine ⟨q0, _, rfl, .inl (.inl (hid_same _ _ hq)), rfl, _, _, rfl, _, _, rfl, rfl, ?_⟩
        obtain ⟨hr, hc, U, Dd, nhr, nhc, ir, ic, e1, e2, e3, e4, pu, pd⟩ := id hg
        have lhr := few_nds nhr Nd.row (fun _ _ e => Nd.row.inj e) fun r hr' => (ir r).mp hr'
        have lhc := few_nds nhc Nd.col (fun _ _ e => Nd.col.inj e) fun r hr' => (ic r).mp hr'
        have S8 : Same H H' := s8.trans hid_same
        have alt' : a ≠ lt := fun z => by rw [z, hid_self] at e1; cases e1
        have blt : b ≠ lt := fun z => by rw [z, hid_self] at e2; cases e2
        have ult : u ≠ lt := fun z => by rw [z, hid_self] at e3; cases e3
        have dlt : d ≠ lt := fun z => by rw [z, hid_self] at e4; cases e4
        have E1 := hid_same _ _ e1
        have E2 := hid_same _ _ e2
        have E3 := hid_same _ _ e3
        have E4 := hid_same _ _ e4
        obtain ⟨ca, crs, cra, crow, rfl, c1, c2, c3, c4⟩ := cost_at (K := K) (hC.mono S8) (rM _ wr) (cN _ wc)
        -- what any of the three ways leaves
        have ends : ∀ (h2 : Hg) (HF : Hp) (ls2 : List V) (R2 : List Wy), HT root h2 → (∀ v, v ∈ nds root h' → v ∈ nds root h2) → (t.map (·.1)).Perm (wys h2 ++ (R.drop (i + 1) ++ R2)) → Same H HF → LT (hid lt H') (hid lt HF) → HgAt C root h2 (hid lt HF) a b u d → HF lt = some (.lst ls2) → AllAre (IsWy (hid lt HF)) ls2 R2 → R2.length ≤ i + 1 →
            (∀ (j : Nat) (w : Wy), j < i + 1 → R[j]? = some w → (Nd.row w.1 ∈ nds root h ∨ Nd.col w.2 ∈ nds root h) → R2.length < i + 1) → ∃ (h' : Hg) (ls : List V) (R' : List Wy) (y9 y10 : Option V), [some (V.ref ca), some (.ref tr), some (.int (root : Nat)), some (.ref a), some (.ref b), some (.ref u), some (.ref d), some (.ref wl), some (.ref lt), some (.int (w.1 : Nat)), some (.int (w.2 : Nat))] = [some (V.ref ca), some (.ref tr), some (.int (root : Nat)), some (.ref a), some (.ref b), some (.ref u), some (.ref d), some (.ref wl), some (.ref lt), y9, y10] ∧ HT root h' ∧ (∀ v, v ∈ nds root h → v ∈ nds root h') ∧
            (t.map (·.1)).Perm (wys h' ++ (R.drop (i + 1) ++ R')) ∧ Same H (hid lt HF) ∧ HgAt C root h' (hid lt HF) a b u d ∧ (hid lt HF) wl = some (.lst us) ∧ AllAre (IsWy (hid lt HF)) us R ∧ HF lt = some (.lst ls) ∧ AllAre (IsWy (hid lt HF)) ls R' ∧ R'.length ≤ i + 1 ∧
            ∀ (j : Nat) (w : Wy), j < i + 1 → R[j]? = some w → (Nd.row w.1 ∈ nds root h ∨ Nd.col w.2 ∈ nds root h) → R'.length < i + 1 := fun h2 HF ls2 R2 g1 g2 g3 g4 g5 g6 g7 g8 g9 g10 =>
          ⟨h2, ls2, R2, _, _, rfl, g1, fun v hv => g2 v (mono v hv), g3, fun x o e => by rw [hid_ne (ne_of_none e nltH)]; exact g4 _ _ e, g6, (g5 _ _).1 ew, aw.imp fun _ _ h => h.lt g5, g7, g8, g9, g10⟩
        by_cases cr : w.1 ∈ hr
        · have nrow := (ir _).mp cr
          have cc : w.2 ∉ hc := fun z => fe ⟨nrow, (ic _).mp z⟩
          refine ⟨_, rfl, _, rfl, a, _, rfl, dgK E1 cr, _, rfl, iteT ?_⟩
          refine ⟨_, rfl, _, rfl, a, _, rfl, dgK E1 cr, _, rfl, _, rfl, ca, crs, _, _, rfl, rfl, c1, c2, _, rfl, cra, crow, _, _, rfl, rfl, c3, c4, _, _, rfl, rfl, _, rfl, _, rfl, b, _, rfl, DPut.k (k := .inl (w.2 : Int)) E2 (small1000 (by rw [dk_len]; omega)), ?_⟩
          obtain ⟨lu, elu, plu⟩ := pu _ cr
          have E3' := (upd_ne bu.symm (o := .dK (putK (dk hc fun c => pr C h' (.col c)) (.inl (w.2 : Int)) (.int (pr C h' (.row w.1) - C (w.1, w.2)))))).trans E3
          have E4' := (upd_ne bd.symm (o := .dK (putK (dk hc fun c => pr C h' (.col c)) (.inl (w.2 : Int)) (.int (pr C h' (.row w.1) - C (w.1, w.2)))))).trans E4
          have E1' := (upd_ne ab (o := .dK (putK (dk hc fun c => pr C h' (.col c)) (.inl (w.2 : Int)) (.int (pr C h' (.row w.1) - C (w.1, w.2)))))).trans E1
          have E2' := @upd_same H' b (.dK (putK (dk hc fun c => pr C h' (.col c)) (.inl (w.2 : Int)) (.int (pr C h' (.row w.1) - C (w.1, w.2)))))
          have L1 : LT H' (upd H' b (.dK (putK (dk hc fun c => pr C h' (.col c)) (.inl (w.2 : Int)) (.int (pr C h' (.row w.1) - C (w.1, w.2)))))) := LT.dK E2
          have S9 : Same H (upd H' b (.dK (putK (dk hc fun c => pr C h' (.col c)) (.inl (w.2 : Int)) (.int (pr C h' (.row w.1) - C (w.1, w.2)))))) := same_over S8 nbH
          have el' := (L1 _ _).1 el
          generalize upd H' b (.dK (putK (dk hc fun c => pr C h' (.col c)) (.inl (w.2 : Int)) (.int (pr C h' (.row w.1) - C (w.1, w.2))))) = H9 at *
          refine ⟨_, rfl, _, rfl, by show 2 ≤ sizeLine; decide, fun q1 nq1 => ⟨by show 1 ≤ sizeLine; decide, fun l1 nl1 => ?_⟩⟩
          have x1 := same_upd (o := .tup [.int (w.1 : Nat), .int (w.2 : Nat)]) nq1
          have x2 := same_upd (o := .lst [.ref q1]) nl1
          have f1 := x2 _ _ (@upd_same H9 q1 (.tup [.int (w.1 : Nat), .int (w.2 : Nat)]))
          have f2 := @upd_same (upd H9 q1 (.tup [.int (w.1 : Nat), .int (w.2 : Nat)])) l1 (.lst [.ref q1])
          have x12 := x1.trans x2
          generalize upd (upd H9 q1 (.tup [.int (w.1 : Nat), .int (w.2 : Nat)])) l1 (.lst [.ref q1]) = H10 at *
          obtain ⟨pus, pu1, pu2⟩ := plu
          have pl := pu2.1
          have pth60 : (pth h' (.row w.1)).length ≤ 60 := Nat.le_trans (sub_len (hT'.pnodup _) fun w hw => pth_sub hw) wlen
          refine ⟨_, rfl, _, rfl, u, _, rfl, dgV (x12 _ _ E3') cr, l1, lu, _, _, rfl, elu, f2, x12 _ _ ((L1 _ _).1 (hid_same _ _ pu1)), Nat.le_of_lt (small1000 (by show 1 + _ ≤ 1000; omega)), fun l2 nl2 => ?_⟩
          have x3 := same_upd (o := .lst ([.ref q1] ++ pus)) nl2
          have f3 := @upd_same H10 l2 (.lst ([.ref q1] ++ pus))
          have x13 := x12.trans x3
          have f1 := x3 _ _ f1
          generalize upd H10 l2 (.lst ([.ref q1] ++ pus)) = H11 at *
          refine ⟨_, rfl, _, rfl, d, _, rfl, DPut.k (k := .inl (w.2 : Int)) (x13 _ _ E4') (small1000 (by rw [kd_len]; omega)), ?_⟩
          have L2 : LT H11 (upd H11 d (.dK (putK (kd hc Dd) (.inl (w.2 : Int)) (.ref l2)))) := LT.dK (x13 _ _ E4')
          have LF : LT H' (upd H11 d (.dK (putK (kd hc Dd) (.inl (w.2 : Int)) (.ref l2)))) := L1.trans ((LT.of x13).trans L2)
          have l2lt : l2 ≠ lt := fun z => by
            have := (LT.of x12 _ _).1 el'
            rw [z, this] at nl2
            cases nl2
          have q1lt : q1 ≠ lt := fun z => by rw [z, el'] at nq1; cases nq1
          have LH := LF.hid lt
          refine ends ((.col w.2, w) :: h') _ ls R' (.cons hT' (decide_eq_true rfl) nrow fun z => cc ((ic _).mpr z)) (fun v hv => nds_cons.mpr (.inr hv)) ?_ (same_over (S9.trans x13) ndH) LH ?_ ((LF _ _).1 el) (al.imp fun _ _ h => h.lt LH) (by omega) (fun j w hj hw he => by omega)
          · refine pm'.trans ?_
            exact List.perm_middle
          · refine HgAt.col (h := h') (r := w.1) (c := w.2) (l2 := l2) nhr nhc ir ic cr cc ?_ ?_ ?_ ?_ (fun r hr' => let ⟨la, e, p⟩ := pu r hr'; ⟨la, e, p.lt LH⟩) (fun r hr' => let ⟨la, e, p⟩ := pd r hr'; ⟨la, e, p.lt LH⟩) ?_
            · rw [hid_ne alt', upd_ne ad]; exact x13 _ _ E1'
            · rw [hid_ne blt, upd_ne bd]; exact x13 _ _ E2'
            · rw [hid_ne ult, upd_ne ud]; exact x13 _ _ E3'
            · rw [hid_ne dlt]; exact upd_same
            · refine ⟨_, by rw [hid_ne l2lt]; exact (L2 _ _).1 f3, .cons ⟨q1, rfl, by rw [hid_ne q1lt]; exact (L2 _ _).2 f1⟩ (pu2.imp fun _ _ h => h.lt LH)⟩
        · have nrow : Nd.row w.1 ∉ nds root h' := fun z => cr ((ir _).mpr z)
          refine ⟨_, rfl, _, rfl, a, _, rfl, dgN E1 cr, _, rfl, iteF ?_⟩
          by_cases cc : w.2 ∈ hc
          · have ncol := (ic _).mp cc
            refine ⟨_, rfl, _, rfl, b, _, rfl, dgK E2 cc, _, rfl, iteT ?_⟩
            refine ⟨_, rfl, _, rfl, b, _, rfl, dgK E2 cc, _, rfl, _, rfl, ca, crs, _, _, rfl, rfl, c1, c2, _, rfl, cra, crow, _, _, rfl, rfl, c3, c4, _, _, rfl, rfl, _, rfl, _, rfl, a, _, rfl, DPut.k (k := .inl (w.1 : Int)) E1 (small1000 (by rw [dk_len]; omega)), ?_⟩
            obtain ⟨lu, elu, plu⟩ := pd _ cc
            have E3' := (upd_ne au.symm (o := .dK (putK (dk hr fun c => pr C h' (.row c)) (.inl (w.1 : Int)) (.int (pr C h' (.col w.2) + C (w.1, w.2)))))).trans E3
            have E4' := (upd_ne ad.symm (o := .dK (putK (dk hr fun c => pr C h' (.row c)) (.inl (w.1 : Int)) (.int (pr C h' (.col w.2) + C (w.1, w.2)))))).trans E4
            have E2' := (upd_ne ab.symm (o := .dK (putK (dk hr fun c => pr C h' (.row c)) (.inl (w.1 : Int)) (.int (pr C h' (.col w.2) + C (w.1, w.2)))))).trans E2
            have E1' := @upd_same H' a (.dK (putK (dk hr fun c => pr C h' (.row c)) (.inl (w.1 : Int)) (.int (pr C h' (.col w.2) + C (w.1, w.2)))))
            have L1 : LT H' (upd H' a (.dK (putK (dk hr fun c => pr C h' (.row c)) (.inl (w.1 : Int)) (.int (pr C h' (.col w.2) + C (w.1, w.2)))))) := LT.dK E1
            have S9 : Same H (upd H' a (.dK (putK (dk hr fun c => pr C h' (.row c)) (.inl (w.1 : Int)) (.int (pr C h' (.col w.2) + C (w.1, w.2)))))) := same_over S8 naH
            have el' := (L1 _ _).1 el
            generalize upd H' a (.dK (putK (dk hr fun c => pr C h' (.row c)) (.inl (w.1 : Int)) (.int (pr C h' (.col w.2) + C (w.1, w.2))))) = H9 at *
            refine ⟨_, rfl, _, rfl, by show 2 ≤ sizeLine; decide, fun q1 nq1 => ⟨by show 1 ≤ sizeLine; decide, fun l1 nl1 => ?_⟩⟩
            have x1 := same_upd (o := .tup [.int (w.1 : Nat), .int (w.2 : Nat)]) nq1
            have x2 := same_upd (o := .lst [.ref q1]) nl1
            have f1 := x2 _ _ (@upd_same H9 q1 (.tup [.int (w.1 : Nat), .int (w.2 : Nat)]))
            have f2 := @upd_same (upd H9 q1 (.tup [.int (w.1 : Nat), .int (w.2 : Nat)])) l1 (.lst [.ref q1])
            have x12 := x1.trans x2
            generalize upd (upd H9 q1 (.tup [.int (w.1 : Nat), .int (w.2 : Nat)])) l1 (.lst [.ref q1]) = H10 at *
            obtain ⟨pus, pu1, pu2⟩ := plu
            have pl := pu2.1
            have pth60 : (pth h' (.col w.2)).length ≤ 60 := Nat.le_trans (sub_len (hT'.pnodup _) fun w hw => pth_sub hw) wlen
            refine ⟨_, rfl, _, rfl, d, _, rfl, dgV (x12 _ _ E4') cc, l1, lu, _, _, rfl, elu, f2, x12 _ _ ((L1 _ _).1 (hid_same _ _ pu1)), Nat.le_of_lt (small1000 (by show 1 + _ ≤ 1000; omega)), fun l2 nl2 => ?_⟩
            have x3 := same_upd (o := .lst ([.ref q1] ++ pus)) nl2
            have f3 := @upd_same H10 l2 (.lst ([.ref q1] ++ pus))
            have x13 := x12.trans x3
            have f1 := x3 _ _ f1
            generalize upd H10 l2 (.lst ([.ref q1] ++ pus)) = H11 at *
            refine ⟨_, rfl, _, rfl, u, _, rfl, DPut.k (k := .inl (w.1 : Int)) (x13 _ _ E3') (small1000 (by rw [kd_len]; omega)), ?_⟩
            have L2 : LT H11 (upd H11 u (.dK (putK (kd hr U) (.inl (w.1 : Int)) (.ref l2)))) := LT.dK (x13 _ _ E3')
            have LF : LT H' (upd H11 u (.dK (putK (kd hr U) (.inl (w.1 : Int)) (.ref l2)))) := L1.trans ((LT.of x13).trans L2)
            have l2lt : l2 ≠ lt := fun z => by
              have := (LT.of x12 _ _).1 el'
              rw [z, this] at nl2
              cases nl2
            have q1lt : q1 ≠ lt := fun z => by rw [z, el'] at nq1; cases nq1
            have LH := LF.hid lt
            refine ends ((.row w.1, w) :: h') _ ls R' (.cons hT' (decide_eq_true rfl) ncol nrow) (fun v hv => nds_cons.mpr (.inr hv)) ?_ (same_over (S9.trans x13) nuH) LH ?_ ((LF _ _).1 el) (al.imp fun _ _ h => h.lt LH) (by omega) (fun j w hj hw he => by omega)
            · refine pm'.trans ?_
              exact List.perm_middle
            · refine HgAt.row (h := h') (r := w.1) (c := w.2) (l2 := l2) nhr nhc ir ic cc cr ?_ ?_ ?_ ?_ (fun r hr' => let ⟨la, e, p⟩ := pu r hr'; ⟨la, e, p.lt LH⟩) (fun r hr' => let ⟨la, e, p⟩ := pd r hr'; ⟨la, e, p.lt LH⟩) ?_
              · rw [hid_ne alt', upd_ne au]; exact x13 _ _ E1'
              · rw [hid_ne blt, upd_ne bu]; exact x13 _ _ E2'
              · rw [hid_ne ult]; exact upd_same
              · rw [hid_ne dlt, upd_ne ud.symm]; exact x13 _ _ E4'
              · refine ⟨_, by rw [hid_ne l2lt]; exact (L2 _ _).1 f3, .cons ⟨q1, rfl, by rw [hid_ne q1lt]; exact (L2 _ _).2 f1⟩ (pu2.imp fun _ _ h => h.lt LH)⟩
          · have ncol : Nd.col w.2 ∉ nds root h' := fun z => cc ((ic _).mpr z)
            refine ⟨_, rfl, _, rfl, b, _, rfl, dgN E2 cc, _, rfl, iteF ?_⟩
            have all := al.1
            refine ⟨_, rfl, .inl ⟨rfl, _, SqL.of el⟩, _, rfl, _, rfl, by show 2 ≤ sizeLine; decide, fun q1 nq1 => ?_⟩
            have x1 := same_upd (o := .tup [.int (w.1 : Nat), .int (w.2 : Nat)]) nq1
            have f1 := @upd_same H' q1 (.tup [.int (w.1 : Nat), .int (w.2 : Nat)])
            have q1lt : q1 ≠ lt := fun z => by rw [z, el] at nq1; cases nq1
            refine ⟨lt, ls, _, rfl, rfl, x1 _ _ el, small1000 (by omega), ?_⟩
            have eh : hid lt (upd (upd H' q1 (.tup [.int (w.1 : Nat), .int (w.2 : Nat)])) lt (.lst (ls ++ [.ref q1]))) = upd (hid lt H') q1 (.tup [.int (w.1 : Nat), .int (w.2 : Nat)]) := by rw [hid_upd, hid_updN q1lt]
            have xs : Same (hid lt H') (hid lt (upd (upd H' q1 (.tup [.int (w.1 : Nat), .int (w.2 : Nat)])) lt (.lst (ls ++ [.ref q1])))) := by
              rw [eh]
              exact same_upd (by rw [hid_ne q1lt]; exact nq1)
            refine ends h' _ (ls ++ [.ref q1]) (R' ++ [w]) hT' (fun _ z => z) ?_ (same_over (S8.trans x1) nltH) (.of xs) (hg.same xs) upd_same ((al.imp fun _ _ h => h.lt (.of xs)).snoc ⟨q1, rfl, by rw [eh]; exact upd_same⟩) (by rw [List.length_append]; show _ + 1 ≤ _; omega) (fun j w' hj hw' he => ?_)
            · refine pm'.trans (List.Perm.append_left _ ?_)
              rw [← List.append_assoc]
              exact (List.perm_append_comm (l₁ := [w]) (l₂ := R.drop (i + 1) ++ R'))
            · rw [List.length_append]
              show _ + 1 < _
              by_cases hji : j < i
              · have := r2 j w' hji hw' he
                omega
              · have : j = i := by omega
                subst this
                rw [hw] at hw'
                cases hw'
                rcases he with he | he
                · exact absurd (mono _ he) nrow
                · exact absurd (mono _ he) ncol
      · obtain ⟨h', ls, R', y9, y10, rfl, hT', mono, pm', s8, hg, ew, aw, el, al, r1, r2⟩ := hh
        have lus := aw.1
        rw [lus, List.drop_length, List.nil_append] at pm'
        rw [lus] at r2
        obtain ⟨w, hw, he⟩ := some_end cn en hT rV pm hR
        obtain ⟨j, hj⟩ := List.getElem?_of_mem hw
        have less := r2 j w (List.getElem?_eq_some_iff.mp hj).1 hj he
        exact ⟨_, rfl, lt, ls, R', h', _, _, _, less, rfl, hT', pm', s8.trans hid_same, hg.same hid_same, el, al.imp fun _ _ h => h.lt (.of hid_same)⟩
end

end Fb

namespace Fb
open PySem PySem.Spec PyProof.Rows L2
section
variable {P : Program} {w : World} {K : PySem.W.Frag} {mg : Str → Option Value} {base : Heap}
/-! ### the widest gap -/
def gap (C : Wy → Int) (h : Hg) (w : Wy) : Int := C w - pr C h (.row w.1) + pr C h (.col w.2)
def IsGap (f : Wy → Int) (H : Hp) (v : V) (w : Wy) : Prop := ∃ q q1, v = .ref q ∧ H q = some (.tup [.int (f w), .ref q1]) ∧ H q1 = some (.tup [.int (w.1 : Nat), .int (w.2 : Nat)])
theorem IsGap.lt {f : Wy → Int} {H H' : Hp} {v : V} {w : Wy} (x : IsGap f H v w) (l : LT H H') : IsGap f H' v w := by
  obtain ⟨q, q1, e, h1, h2⟩ := x
  exact ⟨q, q1, e, (l _ _).2 h1, (l _ _).2 h2⟩
def gd (f : Wy → Int) (w : Wy) : PyData := .tuple [.int (f w), .tuple [.int (w.1 : Nat), .int (w.2 : Nat)]]
theorem gd_lt (f : Wy → Int) (x y : Wy) : (PySem.W.dataLt (gd f x) (gd f y) = true → f x ≤ f y) ∧ (PySem.W.dataLt (gd f x) (gd f y) = false → f y ≤ f x) := by
  have e := PySem.W.dataLt_pair (x := .int (f x)) (x' := .int (f y)) (y := .tuple [.int (x.1 : Nat), .int (x.2 : Nat)]) (y' := .tuple [.int (y.1 : Nat), .int (y.2 : Nat)]) rfl rfl
  show (PySem.W.dataLt (.tuple _) (.tuple _) = true → _) ∧ (PySem.W.dataLt (.tuple _) (.tuple _) = false → _)
  rw [e]
  by_cases c : f x = f y
  · exact ⟨fun _ => by omega, fun _ => by omega⟩
  · rw [if_neg (by rw [PyData.eqv, beq_iff_eq]; exact c), PySem.W.dataLt_int]
    exact ⟨fun z => by have := of_decide_eq_true z; omega, fun z => by have := of_decide_eq_false z; omega⟩
theorem gd_min (f : Wy → Int) : ∀ (l : List Wy) (p : Wy), ∃ q, q ∈ p :: l ∧ PySem.W.minD (gd f p) (l.map (gd f)) = gd f q ∧ ∀ x ∈ p :: l, f q ≤ f x
  | [], p => ⟨p, List.mem_cons_self, rfl, fun x hx => by rw [List.mem_singleton.mp hx]; exact Int.le_refl _⟩
  | a :: l, p => by
    obtain ⟨l1, l2⟩ := gd_lt f a p
    have e : PySem.W.minD (gd f p) ((a :: l).map (gd f)) = PySem.W.minD (if PySem.W.dataLt (gd f a) (gd f p) then gd f a else gd f p) (l.map (gd f)) := rfl
    rw [e]
    cases c : PySem.W.dataLt (gd f a) (gd f p) with
    | true =>
      obtain ⟨q, h1, h2, h3⟩ := gd_min f l a
      rw [if_pos rfl]
      refine ⟨q, List.mem_cons_of_mem _ h1, h2, fun x hx => ?_⟩
      rcases List.mem_cons.mp hx with rfl | hx
      · exact Int.le_trans (h3 a List.mem_cons_self) (l1 c)
      · exact h3 x hx
    | false =>
      obtain ⟨q, h1, h2, h3⟩ := gd_min f l p
      rw [if_neg Bool.false_ne_true]
      refine ⟨q, ?_, h2, fun x hx => ?_⟩
      · rcases List.mem_cons.mp h1 with rfl | h1
        · exact List.mem_cons_self
        · exact List.mem_cons_of_mem _ (List.mem_cons_of_mem _ h1)
      · rcases List.mem_cons.mp hx with rfl | hx
        · exact h3 x List.mem_cons_self
        · rcases List.mem_cons.mp hx with rfl | hx
          · exact Int.le_trans (h3 p List.mem_cons_self) (l2 c)
          · exact h3 x (List.mem_cons_of_mem _ hx)
theorem are_build {α : Type} {R : V → α → Prop} : ∀ {ys : List V}, (∀ y ∈ ys, ∃ x, R y x) → ∃ xs : List α, AllAre R ys xs
  | [], _ => ⟨[], .nil⟩
  | y :: ys, h => by
    obtain ⟨x, hx⟩ := h y List.mem_cons_self
    obtain ⟨xs, hxs⟩ := are_build (ys := ys) fun z hz => h z (List.mem_cons_of_mem _ hz)
    exact ⟨x :: xs, .cons hx hxs⟩
theorem gd_all {f : Wy → Int} {H : Hp} : ∀ {ys : List V} {ps : List Wy}, AllAre (IsGap f H) ys ps → DpAll K H ys (ps.map (gd f))
  | [], [], _ => .nil
  | y :: ys, p :: ps, a => by
    obtain ⟨q, q1, e, h1, h2⟩ := a.2 0 y p rfl rfl
    subst e
    exact .cons (.tup (.inl (.inl h1)) (.cons (.int _) (.cons (.tup (.inl (.inl h2)) (.cons (.int _) (.cons (.int _) .nil))) .nil))) (gd_all ⟨by simpa using a.1, fun i v x h1 h2 => a.2 (i + 1) v x (by simpa using h1) (by simpa using h2)⟩)
  | [], _ :: _, a => by simp [AllAre] at a
  | _ :: _, [], a => by simp [AllAre] at a
theorem gd_depth (f : Wy → Int) : ∀ l : List Wy, PyData.depthAll (l.map (gd f)) ≤ 8
  | [] => Nat.zero_le _
  | p :: l => Nat.max_le.mpr ⟨by show max 0 (max (max 0 (max 0 0) + 1) 0) + 1 ≤ 8; decide, gd_depth f l⟩
def spGap (K : PySem.W.Frag) : Sp := fun vs H Q _ => ∃ (cv : V) (p : Addr) (M N : Nat) (C : Wy → Int) (rows cols : List Nat) (t : List (Wy × Int)) (root : Nat) (h : Hg), vs = [cv, .ref p] ∧ Costs H cv M N C ∧ HangIs C rows cols t H p root h ∧
  rows ≠ [] ∧ cols ≠ [] ∧ rows.length ≤ 30 ∧ cols.length ≤ 30 ∧ rows.Nodup ∧ cols.Nodup ∧ (∀ r ∈ rows, r < M) ∧ (∀ c ∈ cols, c < N) ∧
  ∀ H' q q1 w, Same H H' → w.1 ∈ rows → w.2 ∈ cols → (∀ r ∈ rows, ∀ c ∈ cols, gap C h w ≤ gap C h (r, c)) → H' q = some (.tup [.int (gap C h w), .ref q1]) → H' q1 = some (.tup [.int (w.1 : Nat), .int (w.2 : Nat)]) → Q (.ref q) H'
set_option maxHeartbeats 800000 in
theorem ok_p_widest_gap (T : Txt K mg) : FnOk P w K mg base CX0 1 T.f_p_widest_gap T.d_p_widest_gap ["costs", "hung"] (spGap K) := by
  refine T.F_p_widest_gap.ok sc_p_widest_gap (fun vs H Q E h => ?_) (fun cdv A outer s H vs Q E hr h => ?_)
  · obtain ⟨cv, p, M, N, C, rows, cols, t, root, h, rfl, _⟩ := h
    rfl
  · obtain ⟨cv, p, M, N, C, rows, cols, t, root, h, rfl, hC, ⟨a, b, u, d, ab, hp, hT, pm, ⟨rs, cs, U, Dd, nhr, nhc, ir, ic, e1, e2, e3, e4, pu, pd⟩, jr, jc⟩, rne, cne, lr, lc, nr, nc, rM, cN, q⟩ := h
    refine ⟨_, (pss_cons (ps_asg (pv 1) (pg_tup (by rfl) (pgs_cons (pg_name (i := 2) sc_p_widest_gap.nd rfl (.inr rfl)) (pgs_cons (pg_name (i := 3) sc_p_widest_gap.nd rfl (.inr rfl)) (pgs_cons (pg_name (i := 4) sc_p_widest_gap.nd rfl (.inl rfl)) (pgs_cons (pg_name (i := 5) sc_p_widest_gap.nd rfl (.inl rfl)) pgs_nil))))))
 (pss_one (ps_ret (pe_callB (cr_minD rfl hr.units) (by rfl) T.z_min (by decide +kernel) (pa_cons (pe_lock (pe_lock (pe_lc2 (own := [("row", 6), ("column", 7)]) (vs1 := [7]) (g := (gName 6)) (tt := tYes) (g1 := (gName 7)) (tt1 := tYes) (by rfl) sc_p_widest_gap.nd (pi_keys (pv 2)) (blkOk_by (own := [("row", 6), ("column", 7)]) (N := ["costs", "hung", "here", "there", "ups", "downs", "row", "column"]) (sc := defScope s_p_widest_gap) (by decide +kernel)) (by decide) (fun _ _ _ _ _ => by exact (pg_name (i := 6) sc_p_widest_gap.nd rfl (.inl rfl))) (fun _ _ _ _ _ => by exact pts_nil) (fun _ _ _ _ _ => by exact (pi_keys (pv 3))) (fun _ _ _ _ _ => by exact (pg_name (i := 7) sc_p_widest_gap.nd rfl (.inl rfl))) (fun _ _ _ _ _ => by exact pts_nil) (fun _ _ _ _ _ => by exact (pe_tup (pa_cons (pe_op op_add (pe_op op_sub (pe_ix (ix_listK (K := K) rfl) (pe_ix (ix_listK (K := K) rfl) (pv 0) (pv 6) (fun _ _ => rfl)) (pv 7) (fun _ _ => rfl)) (pe_dget (units1 hr.units) (pv 2) (pv 6) (fun _ _ => rfl))) (pe_dget (units1 hr.units) (pv 3) (pv 7) (fun _ _ => rfl))) (pa_cons (pe_tup (pa_cons (pv 6) (pa_cons (pv 7) pa_nil))) pa_nil))))))) pa_nil))))), ?_⟩
    have lrs : rs.length ≤ 30 := Nat.le_trans (sub_len nhr fun r hr' => (jr r).mp ((ir r).mp hr')) lr
    have lcs : cs.length ≤ 30 := Nat.le_trans (sub_len nhc fun r hr' => (jc r).mp ((ic r).mp hr')) lc
    have inr : ∀ r, r ∈ rs ↔ r ∈ rows := fun r => (ir r).trans (jr r)
    have inc : ∀ r, r ∈ cs ↔ r ∈ cols := fun r => (ic r).trans (jc r)
    refine ⟨_, rfl, p, _, rfl, .inl (.inl hp), rfl, _, _, rfl, _, _, rfl, _, _, rfl, _, _, rfl, rfl, ?_⟩
    refine ⟨a, _, e1, True.intro, fun od1 => ⟨b, _, (upd_ne (fun z => ab z.symm)).trans e2, True.intro, fun od2 => ?_⟩⟩
    have f1 : (upd (upd H a (.frz od1 (.dK (dk rs fun r => pr C h (.row r))))) b (.frz od2 (.dK (dk cs fun c => pr C h (.col c))))) a = some (.frz od1 (.dK (dk rs fun r => pr C h (.row r)))) := (upd_ne ab).trans upd_same
    have f2 := @upd_same (upd H a (.frz od1 (.dK (dk rs fun r => pr C h (.row r))))) b (.frz od2 (.dK (dk cs fun c => pr C h (.col c))))
    have lt34 : LT H (upd (upd H a (.frz od1 (.dK (dk rs fun r => pr C h (.row r))))) b (.frz od2 (.dK (dk cs fun c => pr C h (.col c))))) := (LT.dK e1).trans (LT.dK ((upd_ne (fun z => ab z.symm)).trans e2))
    have lock : ∀ {H5 : Hp}, Same (upd (upd H a (.frz od1 (.dK (dk rs fun r => pr C h (.row r))))) b (.frz od2 (.dK (dk cs fun c => pr C h (.col c))))) H5 → Same H (upd (upd H5 b (.dK (dk cs fun c => pr C h (.col c)))) a (.dK (dk rs fun r => pr C h (.row r)))) := fun {H5} s => lock_same e1 (lock_same ((upd_ne (fun z => ab z.symm)).trans e2) s)
    generalize upd (upd H a (.frz od1 (.dK (dk rs fun r => pr C h (.row r))))) b (.frz od2 (.dK (dk cs fun c => pr C h (.col c)))) = H4 at *
    have hC4 := hC.lt lt34
    refine ⟨_, rfl, a, od1, rfl, .inl ⟨_, f1, fun D nD => lc2_all (walk_keys (d := a) (o := od1) (kvs := dk rs fun r => pr C h (.row r))) (fun _ => cs.length) (fun i j y G => ∃ r c, rs[i]? = some r ∧ cs[j]? = some c ∧ IsGap (gap C h) G y (r, c)) (fun _ _ _ _ _ s ⟨a, b, ha, hb, h⟩ => ⟨a, b, ha, hb, h.lt (.of s)⟩) 30 (fun _ _ => lcs) (by rw [dk_len]; omega) nD (fun H' s => s _ _ f1) (fun i x H5 H6 kk hi s5 eD y hk => ?_) (fun H5 bs s5 e5 l5 r5 => ?_)⟩⟩
    · obtain ⟨rfl, k, v, hk', rfl⟩ := y
      obtain ⟨r, hr', rfl, _⟩ := kd_at hk'
      refine ⟨rfl, _, rfl, b, od2, rfl, .inl ⟨_, hid_same _ _ (s5 _ _ f2), hk _ _ _ ⟨Same.refl _, fun H => H b = some (.frz od2 (.dK (dk cs fun c => pr C h (.col c)))), _, by rw [← dk_len cs fun c => pr C h (.col c)]; exact walk_keys, fun H7 s7 _ => hid_same _ _ (s7 _ _ (s5 _ _ f2)), fun j x1 H7 H8 k hj s7 eD7 y1 hk1 => ?_⟩⟩⟩
      obtain ⟨rfl, k2, v2, hk2, rfl⟩ := y1
      obtain ⟨c, hc', rfl, _⟩ := kd_at hk2
      have S7 : Same H4 H8 := s5.trans (s7.trans hid_same)
      have rin := List.mem_of_getElem? hr'
      have cin := List.mem_of_getElem? hc'
      obtain ⟨ca, crs, cra, crow, rfl, g1, g2, g3, g4⟩ := cost_at (K := K) (hC4.mono S7) (rM r ((inr r).mp rin)) (cN c ((inc c).mp cin))
      refine ⟨rfl, _, rfl, _, rfl, ca, crs, _, _, rfl, rfl, g1, g2, _, rfl, cra, crow, _, _, rfl, rfl, g3, g4, _, rfl, _, rfl, a, _, rfl, dgKf (S7 _ _ f1) rin, _, _, rfl, rfl, _, rfl, _, rfl, b, _, rfl, dgKf (S7 _ _ f2) cin, _, _, rfl, rfl, _, rfl, _, rfl, by show 2 ≤ sizeLine; decide, fun q1 nq1 => ⟨by show 2 ≤ sizeLine; decide, fun q2 nq2 => ?_⟩⟩
      have x1 := same_upd (o := .tup [.int (r : Nat), .int (c : Nat)]) nq1
      have x2 := same_upd (o := .tup [.int (C (r, c) - pr C h (.row r) + pr C h (.col c)), .ref q1]) nq2
      obtain ⟨ys, hys⟩ := eD7
      have q1D : q1 ≠ D := fun z => by rw [z, hys] at nq1; cases nq1
      have q2D : q2 ≠ D := fun z => by
        have e := x1 _ _ hys
        rw [← z] at e
        have e : some _ = none := e.symm.trans nq2
        cases e
      refine hk1 _ _ (x1.trans x2) ⟨r, c, hr', hc', q2, q1, rfl, ?_, ?_⟩
      · rw [hid_ne q2D]
        exact upd_same
      · rw [hid_ne q1D]
        exact x2 _ _ upd_same
    · have sA := s5.trans hid_same
      have e5b := sA _ _ f2
      have e5a := sA _ _ f1
      have s36 := lock sA
      have lt56 : LT H5 (upd (upd H5 b (.dK (dk cs fun c => pr C h (.col c)))) a (.dK (dk rs fun r => pr C h (.row r)))) := (LT.frz e5b).trans (LT.frz ((upd_ne ab).trans e5a))
      rw [dk_len] at l5
      have all : ∀ y ∈ bs.flatten, ∃ p, IsGap (gap C h) (upd (upd H5 b (.dK (dk cs fun c => pr C h (.col c)))) a (.dK (dk rs fun r => pr C h (.row r)))) y p ∧ p.1 ∈ rows ∧ p.2 ∈ cols := fun y hy => by
        obtain ⟨b', hb, hyb⟩ := List.mem_flatten.mp hy
        obtain ⟨i, hi⟩ := List.getElem?_of_mem hb
        obtain ⟨j, hj⟩ := List.getElem?_of_mem hyb
        obtain ⟨r, c, hr', hc', h⟩ := (r5 i b' hi).2 j y hj
        exact ⟨(r, c), (h.lt (.of hid_same)).lt lt56, (inr r).mp (List.mem_of_getElem? hr'), (inc c).mp (List.mem_of_getElem? hc')⟩
      have cov : ∀ r ∈ rows, ∀ c ∈ cols, ∃ y ∈ bs.flatten, IsGap (gap C h) (upd (upd H5 b (.dK (dk cs fun c => pr C h (.col c)))) a (.dK (dk rs fun r => pr C h (.row r)))) y (r, c) := fun r hr' c hc' => by
        obtain ⟨i, hi⟩ := List.getElem?_of_mem ((inr r).mpr hr')
        obtain ⟨j, hj⟩ := List.getElem?_of_mem ((inc c).mpr hc')
        have il := (List.getElem?_eq_some_iff.mp hi).1
        have jl := (List.getElem?_eq_some_iff.mp hj).1
        have hb : bs[i]? = some (bs[i]'(by omega)) := List.getElem?_eq_getElem _
        obtain ⟨lb, rb⟩ := r5 i _ hb
        have hy : (bs[i]'(by omega))[j]? = some ((bs[i]'(by omega))[j]'(by omega)) := List.getElem?_eq_getElem _
        obtain ⟨a', c', ha', hc', h⟩ := rb j _ hy
        rw [hi] at ha'
        rw [hj] at hc'
        cases ha'
        cases hc'
        exact ⟨_, List.mem_flatten.mpr ⟨_, List.mem_of_getElem? hb, List.mem_of_getElem? hy⟩, (h.lt (.of hid_same)).lt lt56⟩
      have eD6 := (lt56 _ _).1 e5
      refine ⟨e5b, (upd_ne ab).trans e5a, ?_⟩
      generalize upd (upd H5 b (.dK (dk cs fun c => pr C h (.col c)))) a (.dK (dk rs fun r => pr C h (.row r))) = H6 at *
      obtain ⟨ps, hps⟩ := are_build (R := fun y p => IsGap (gap C h) H6 y p ∧ p.1 ∈ rows ∧ p.2 ∈ cols) all
      have hps1 : AllAre (IsGap (gap C h) H6) bs.flatten ps := hps.imp fun _ _ h => h.1
      have one : ∀ {y : V} {p p' : Wy}, IsGap (gap C h) H6 y p → IsGap (gap C h) H6 y p' → gap C h p = gap C h p' := fun {y p p'} ⟨q, q1, e, h1, _⟩ ⟨q', q1', e', h1', _⟩ => by
        rw [e] at e'
        cases e'
        rw [h1] at h1'
        exact V.int.inj (List.cons.inj (HO.tup.inj (Option.some.inj h1'))).1
      obtain ⟨r0, hr0⟩ := List.exists_mem_of_ne_nil rows rne
      obtain ⟨c0, hc0⟩ := List.exists_mem_of_ne_nil cols cne
      obtain ⟨y0, hy0, _⟩ := cov r0 hr0 c0 hc0
      cases ps with
      | nil =>
        have := hps.1
        rw [List.length_eq_zero_iff.mp this] at hy0
        cases hy0
      | cons p0 ps =>
        refine ⟨D, _, gd (gap C h) p0, ps.map (gd (gap C h)), rfl, SqL.of eD6, gd_all hps1, ⟨fun x hx y hy => ?_, fun x hx => ?_⟩, gd_depth (gap C h) (p0 :: ps), fun i x hx hd => ?_⟩
        · obtain ⟨a, _, rfl⟩ := List.mem_map.mp (show x ∈ (p0 :: ps).map (gd (gap C h)) from hx)
          obtain ⟨b, _, rfl⟩ := List.mem_map.mp (show y ∈ (p0 :: ps).map (gd (gap C h)) from hy)
          rfl
        · obtain ⟨a, _, rfl⟩ := List.mem_map.mp (show x ∈ (p0 :: ps).map (gd (gap C h)) from hx)
          exact nofun
        · obtain ⟨w', hw', em, le⟩ := gd_min (gap C h) ps p0
          rw [em] at hd
          obtain ⟨p', hp', ig, pr', pc'⟩ := hps.at hx
          have hd : ((p0 :: ps).map (gd (gap C h)))[i]? = some (gd (gap C h) w') := hd
          rw [List.getElem?_map, hp'] at hd
          have ge : gap C h p' = gap C h w' := PyData.int.inj (List.cons.inj (PyData.tuple.inj (Option.some.inj hd))).1
          obtain ⟨q2, q1, rfl, g1, g2⟩ := ig
          refine q H6 q2 q1 p' s36 pr' pc' (fun r hr' c hc' => ?_) g1 g2
          obtain ⟨y, hy, iy⟩ := cov r hr' c hc'
          obtain ⟨j, hj⟩ := List.getElem?_of_mem hy
          obtain ⟨x', hx', iy'⟩ := hps1.at hj
          rw [ge, one iy iy']
          exact le _ (List.mem_of_getElem? hx')
end

end Fb

namespace Fb
open PySem PySem.Spec PyProof.Rows L2
section
variable {P : Program} {w : World} {K : PySem.W.Frag} {mg : Str → Option Value} {base : Heap}
/-! ### a way exchanged -/
theorem atI_back {α : Type} {xs : List α} {k : Nat} {v : α} (kl : k < xs.length) (h : xs[xs.length - (k + 1)]? = some v) : atI xs (-1 - (k : Int)) = some v := by
  have e : L2.ixN xs.length (-1 - (k : Int)) = some (xs.length - (k + 1)) := by
    unfold L2.ixN
    rw [if_neg (by omega), if_pos (by omega)]
    congr 1
    omega
  unfold atI
  rw [e]
  exact h
theorem shift_in {t : List (Wy × Int)} {L : List Wy} {k a : Int} {w : Wy} (h : (w, a) ∈ t) (n : w ∉ L) : (w, a) ∈ shift t L k := by
  have := List.mem_map_of_mem (f := fun p : Wy × Int => (p.1, if p.1 ∈ L then p.2 + k else p.2)) h
  have e : ((w, a).1, if (w, a).1 ∈ L then (w, a).2 + k else (w, a).2) = (w, a) := by rw [if_neg n]
  exact e ▸ this
theorem key_one {t : List (Wy × Int)} (nd : (t.map (·.1)).Nodup) {w : Wy} {a b : Int} (ha : (w, a) ∈ t) (hb : (w, b) ∈ t) : a = b := by
  obtain ⟨i, hi⟩ := List.getElem?_of_mem ha
  obtain ⟨j, hj⟩ := List.getElem?_of_mem hb
  have hi' : (t.map (·.1))[i]? = some w := by rw [List.getElem?_map, hi]; rfl
  have hj' : (t.map (·.1))[j]? = some w := by rw [List.getElem?_map, hj]; rfl
  have := (List.getElem?_inj (List.getElem?_eq_some_iff.mp hi').1 nd).mp (hi'.trans hj'.symm)
  subst this
  rw [hi] at hj
  cases hj
  rfl
theorem shift_step {t : List (Wy × Int)} (nd : (t.map (·.1)).Nodup) {L : List Wy} {k a : Int} {w : Wy} (h : (w, a) ∈ t) (n : w ∉ L) : ((shift t L k).map fun p => (p.1, if p.1 = w then a + k else p.2)) = shift t (L ++ [w]) k := by
  unfold shift
  rw [List.map_map]
  refine List.map_congr_left fun p hp => ?_
  show (p.1, if p.1 = w then a + k else (if p.1 ∈ L then p.2 + k else p.2)) = (p.1, if p.1 ∈ L ++ [w] then p.2 + k else p.2)
  by_cases e : p.1 = w
  · have : p.2 = a := key_one nd (by rw [← e]; exact hp) h
    rw [if_pos e, if_pos (by rw [e]; exact List.mem_append_right _ (List.mem_singleton.mpr rfl)), this]
  · rw [if_neg e]
    have m : (p.1 ∈ L ++ [w]) ↔ p.1 ∈ L := by
      rw [List.mem_append, List.mem_singleton]
      exact ⟨fun h => h.resolve_right e, .inl⟩
    by_cases c : p.1 ∈ L
    · rw [if_pos c, if_pos (m.mpr c)]
    · rw [if_neg c, if_neg (fun z => c (m.mp z))]
theorem shift_nil (t : List (Wy × Int)) (k : Int) : shift t [] k = t := by
  unfold shift
  conv => rhs; rw [← List.map_id t]
  refine List.map_congr_left fun p _ => ?_
  rw [if_neg (fun z => by cases z)]
  rfl
theorem AllAre.evens {α : Type} {R : V → α → Prop} : ∀ {us : List V} {l : List α}, AllAre R us l → AllAre R (evensL us) (evensL l)
  | [], [], _ => .nil
  | [x], [a], h => h
  | x :: y :: us, a :: b :: l, h => .cons (h.2 0 x a rfl rfl) (AllAre.evens ⟨by simpa using h.1, fun i v z h1 h2 => h.2 (i + 2) v z (by simpa using h1) (by simpa using h2)⟩)
  | [], _ :: _, h => by simp [AllAre] at h
  | _ :: _, [], h => by simp [AllAre] at h
  | [_], _ :: _ :: _, h => by simp [AllAre] at h
  | _ :: _ :: _, [_], h => by simp [AllAre] at h
theorem last_take {l : List Wy} {n : Nat} (h0 : 0 < n) (hn : n ≤ l.length) : (l.take n).getLast? = l[n - 1]? := by
  rw [List.getLast?_eq_getElem?, List.length_take, Nat.min_eq_left hn, List.getElem?_take, if_pos (by omega)]
theorem wh_two {c : TT} {σ : L2.St} {H : Hp} {A B : Hp → Prop} (F1 F0 : Prop) (hc : ∀ Q : Bool → Hp → Prop, (F1 → Q true H) → (F0 → Q false H) → c σ H Q) (h1 : F1 → A H) (h0 : F0 → B H) : c σ H (fun b H1 => if b = true then A H1 else B H1) := hc _ (fun f => iteT (h1 f)) (fun f => iteF (h0 f))
theorem dp_wy {H : Hp} {v : V} {w : Wy} (h : IsWy H v w) : Dp K H v (.tuple [.int (w.1 : Nat), .int (w.2 : Nat)]) := by
  obtain ⟨q, rfl, h1⟩ := h
  exact .tup (.inl (.inl h1)) (.cons (.int _) (.cons (.int _) .nil))
theorem eqv_wy (x y : Wy) : PyData.eqv (.tuple [.int (x.1 : Nat), .int (x.2 : Nat)]) (.tuple [.int (y.1 : Nat), .int (y.2 : Nat)]) = decide (x = y) := by
  rw [eqv_tup2]
  by_cases e : x = y
  · subst e
    simp
  · rw [decide_eq_false e, Bool.and_eq_false_iff]
    by_cases e1 : x.1 = y.1
    · exact .inr (beq_eq_false_iff_ne.mpr fun z => e (Prod.ext e1 (by omega)))
    · exact .inl (beq_eq_false_iff_ne.mpr fun z => e1 (by omega))
/-- the value of a way, 0 where there is none -/
def valOf (t : List (Wy × Int)) (w : Wy) : Int := ((t.find? fun p => decide (p.1 = w)).map (·.2)).getD 0
theorem valOf_in {t : List (Wy × Int)} (nd : (t.map (·.1)).Nodup) {w : Wy} {a : Int} (h : (w, a) ∈ t) : valOf t w = a := by
  unfold valOf
  cases e : t.find? fun p => decide (p.1 = w) with
  | none =>
    have := List.find?_eq_none.mp e _ h
    simp at this
  | some p =>
    have h1 := List.find?_some e
    have h2 := List.mem_of_find?_eq_some e
    have h3 : p.1 = w := of_decide_eq_true h1
    exact key_one nd (w := w) (by rw [← h3]; exact h2) h
theorem in_keys {t : List (Wy × Int)} {w : Wy} (h : w ∈ t.map (·.1)) : ∃ a, (w, a) ∈ t := by
  obtain ⟨p, hp, rfl⟩ := List.mem_map.mp h
  exact ⟨p.2, hp⟩
theorem evens_sub {α : Type} : ∀ l : List α, (evensL l).Sublist l
  | [] => .refl _
  | [_] => .refl _
  | x :: y :: l => .cons₂ x ((evens_sub l).cons y)
theorem shift_go {H : Hp} {tr q0 : Addr} {t : List (Wy × Int)} {G : List Wy} {i : Nat} {k a x : Int} {w : Wy} (nd : (t.map (·.1)).Nodup) (ln : t.length ≤ 900) (e : H tr = some (.dT (tk (shift t (G.take i) k)))) (hq : H q0 = some (.tup [.int (w.1 : Nat), .int (w.2 : Nat)]))
    (hw : G[i]? = some w) (ng : G.Nodup) (ha : (w, a) ∈ t) (hx : x = a + k) : DGet H tr (.ref q0) (some (.int a)) ∧ DPut H tr (.ref q0) (.int x) (upd H tr (.dT (tk (shift t (G.take (i + 1)) k)))) := by
  obtain ⟨il, iw⟩ := List.getElem?_eq_some_iff.mp hw
  have no : w ∉ G.take i := fun z => by
    obtain ⟨j, hj⟩ := List.getElem?_of_mem z
    rw [List.getElem?_take] at hj
    split at hj
    · rename_i c
      have := (List.getElem?_inj il ng).mp (hw.trans hj.symm)
      omega
    · cases hj
  have ks : ((shift t (G.take i) k).map (·.1)).Nodup := by rw [shift_keys]; exact nd
  have g := DGet.t (k := wk w) e hq
  have p := DPut.t (k := wk w) (v := .int x) e hq (small1000 (by rw [tk_len, shift, List.length_map]; omega))
  rw [tk_val ks (shift_in ha no)] at g
  rw [tk_put ks (shift_in ha no), hx, shift_step nd ha no, ← iw, List.take_append_getElem il] at p
  subst hx
  exact ⟨g, p⟩
def spExch : Sp := fun vs H Q _ => ∃ (tr wq p : Addr) (C : Wy → Int) (rows cols : List Nat) (s : Nd → Int) (t : List (Wy × Int)) (root : Nat) (h : Hg) (wy : Wy), vs = [.ref tr, .ref wq, .ref p] ∧ H tr = some (.dT (tk t)) ∧ H wq = some (.tup [.int (wy.1 : Nat), .int (wy.2 : Nat)]) ∧ HangIs C rows cols t H p root h ∧
  Tree rows cols s t ∧ Nondeg (plc rows cols) s ∧ rows.Nodup ∧ cols.Nodup ∧ rows.length ≤ 30 ∧ cols.length ≤ 30 ∧ wy.1 ∈ rows ∧ wy.2 ∈ cols ∧ gap C h wy < 0 ∧
  ∀ H' t', Same (hid tr H) (hid tr H') → H' tr = some (.dT (tk t')) → Tree rows cols s t' → tsum t' C < tsum t C → Q .non H'
set_option maxHeartbeats 1600000 in
theorem ok_p_exchange (T : Txt K mg) : FnOk P w K mg base CX0 1 T.f_p_exchange T.d_p_exchange ["tree", "way", "hung"] spExch := by
  refine T.F_p_exchange.ok sc_p_exchange (fun vs H Q E h => ?_) (fun cdv A outer s0 H vs Q E hr h => ?_)
  · obtain ⟨tr, wq, p, C, rows, cols, s, t, root, h, wy, rfl, _⟩ := h
    rfl
  · obtain ⟨tr, wq, p, C, rows, cols, s, t, root, h, wy, rfl, ht, hw, ⟨a, b, u, d, ab, hp, hT, pm, ⟨rs, cs, U, Dd, nhr, nhc, ir, ic, e1, e2, e3, e4, pu, pd⟩, jr, jc⟩, Tr, nd, nr, nc, lr, lc, wr, wc, neg, q⟩ := h
    refine ⟨_, (pss_cons (ps_asg (pv 2) (pg_tup (by rfl) (pgs_cons (pg_name (i := 3) sc_p_exchange.nd rfl (.inl rfl)) (pgs_cons (pg_name (i := 4) sc_p_exchange.nd rfl (.inl rfl)) (pgs_cons (pg_name (i := 5) sc_p_exchange.nd rfl (.inl rfl)) (pgs_cons (pg_name (i := 6) sc_p_exchange.nd rfl (.inl rfl)) pgs_nil))))))
 (pss_cons (ps_asg (pv 1) (pg_tup (by rfl) (pgs_cons (pg_name (i := 7) sc_p_exchange.nd rfl (.inl rfl)) (pgs_cons (pg_name (i := 8) sc_p_exchange.nd rfl (.inl rfl)) pgs_nil))))
 (pss_cons (ps_set (i := 9) sc_p_exchange.nd rfl (.inl rfl) (pe_dget (units1 hr.units) (pv 5) (pv 7) (fun _ _ => rfl)))
 (pss_cons (ps_set (i := 10) sc_p_exchange.nd rfl (.inl rfl) (pe_dget (units1 hr.units) (pv 6) (pv 8) (fun _ _ => rfl)))
 (pss_cons (ps_set (i := 11) sc_p_exchange.nd rfl (.inl rfl) pe_int)
 (pss_cons (ps_while PassesOwn.never (PW.pt (pw_and (pt_cmpR op_lt (pv 11) (pe_callB (call_min2 rfl) (by rfl) T.z_min (by decide +kernel) (pa_cons (pe_callB call_len_seq (by rfl) T.z_len (by decide +kernel) (pa_cons (pv 9) pa_nil)) (pa_cons (pe_callB call_len_seq (by rfl) T.z_len (by decide +kernel) (pa_cons (pv 10) pa_nil)) pa_nil))) (nomark _)) (pw_and1 (pt_cmpR (op_eqD hr.units) (pe_ix ix_list (pv 9) (pe_op op_sub (pe_un un_neg pe_int) (pv 11)) (fun _ _ => rfl)) (pe_ix ix_list (pv 10) (pe_op op_sub (pe_un un_neg pe_int) (pv 11)) (fun _ _ => rfl)) (nomark _)))))
  (pss_one (ps_aug (i := 11) sc_p_exchange.nd rfl (.inl rfl) pe_int ip_add)))
 (pss_cons (ps_set (i := 9) sc_p_exchange.nd rfl (.inl rfl) (pe_slice sl_list (pv 9) po_none (po_some (pe_op op_sub (pe_callB call_len_seq (by rfl) T.z_len (by decide +kernel) (pa_cons (pv 9) pa_nil)) (pv 11)))))
 (pss_cons (ps_set (i := 10) sc_p_exchange.nd rfl (.inl rfl) (pe_slice sl_list (pv 10) po_none (po_some (pe_op op_sub (pe_callB call_len_seq (by rfl) T.z_len (by decide +kernel) (pa_cons (pv 10) pa_nil)) (pv 11)))))
 (pss_cons (ps_set (i := 12) sc_p_exchange.nd rfl (.inl rfl) (pe_op op_cat (pe_evens (pv 9)) (pe_evens (pv 10))))
 (pss_cons (ps_asg (pe_callB (cr_minD rfl hr.units) (by rfl) T.z_min (by decide +kernel) (pa_cons (pe_lc (own := [("each", 15)]) (g := (gName 15)) (tt := tYes) (by rfl) sc_p_exchange.nd (pi_list (pv 12)) (blkOk_by (own := [("each", 15)]) (N := ["tree", "way", "hung", "here", "there", "ups", "downs", "row", "column", "up", "down", "shared", "giving", "amount", "gone", "each"]) (sc := defScope s_p_exchange) (by decide +kernel)) (fun _ _ _ _ _ => by exact (pg_name (i := 15) sc_p_exchange.nd rfl (.inl rfl))) (fun _ _ _ _ _ => by exact pts_nil) (fun _ _ _ _ _ => by exact (pe_tup (pa_cons (pe_dget (units1 hr.units) (pv 0) (pv 15) (fun _ _ => rfl)) (pa_cons (pv 15) pa_nil))))) pa_nil)) (pg_tup (by rfl) (pgs_cons (pg_name (i := 13) sc_p_exchange.nd rfl (.inl rfl)) (pgs_cons (pg_name (i := 14) sc_p_exchange.nd rfl (.inl rfl)) pgs_nil))))
 (pss_cons (ps_for PassesOwn.never rfl (pi_list (pv 12)) (pg_name (i := 15) sc_p_exchange.nd rfl (.inl rfl))
  (pss_one (ps_daug (units1 hr.units) (pv 0) (pv 15) (pv 13) ip_sub (fun _ _ _ => rfl))))
 (pss_cons (ps_for PassesOwn.never rfl (pi_list (pe_op op_cat (pe_odds (pv 9)) (pe_odds (pv 10)))) (pg_name (i := 15) sc_p_exchange.nd rfl (.inl rfl))
  (pss_one (ps_daug (units1 hr.units) (pv 0) (pv 15) (pv 13) ip_add (fun _ _ _ => rfl))))
 (pss_cons (ps_ddelT (units1 hr.units) (pv 0) (pv 14))
 (pss_one (ps_dput (units1 hr.units) (pv 0) (pv 1) (pv 13) rfl))))))))))))))), ?_⟩
    have rin : wy.1 ∈ rs := (ir _).mpr ((jr _).mpr wr)
    have cin : wy.2 ∈ cs := (ic _).mpr ((jc _).mpr wc)
    obtain ⟨lu, elu, us, hus, aus⟩ := pu _ rin
    obtain ⟨ld, eld, ds, hds, ads⟩ := pd _ cin
    have vl : (plc rows cols).length = rows.length + cols.length := by unfold plc; rw [List.length_append, List.length_map, List.length_map]
    have wl : (wys h).length ≤ 60 := by
      have := pm.length_eq
      rw [List.length_map] at this
      have := Tr.len
      omega
    have p1 : (pth h (.row wy.1)).length ≤ 60 := Nat.le_trans (sub_len (hT.pnodup _) fun w hw => pth_sub hw) wl
    have p2 : (pth h (.col wy.2)).length ≤ 60 := Nat.le_trans (sub_len (hT.pnodup _) fun w hw => pth_sub hw) wl
    have lus := aus.1
    have lds := ads.1
    obtain ⟨l1, hl1⟩ : ∃ l, l = pth h (.row wy.1) := ⟨_, rfl⟩
    obtain ⟨l2, hl2⟩ : ∃ l, l = pth h (.col wy.2) := ⟨_, rfl⟩
    rw [← hl1] at lus p1 aus
    rw [← hl2] at lds p2 ads
    refine ⟨_, rfl, p, _, rfl, .inl (.inl hp), rfl, _, _, rfl, _, _, rfl, _, _, rfl, _, _, rfl, rfl, ?_⟩
    refine ⟨_, rfl, wq, _, rfl, .inl (.inl hw), rfl, _, _, rfl, _, _, rfl, rfl, ?_⟩
    refine ⟨_, rfl, _, rfl, u, _, rfl, dgV e3 rin, ?_⟩
    rw [elu]
    refine ⟨_, rfl, _, rfl, d, _, rfl, dgV e4 cin, ?_⟩
    rw [eld]
    dsimp only [gName]
    -- what both paths share
    refine ⟨fun n σ H' => ∃ k : Nat, n = min l1.length l2.length - k ∧ H = H' ∧ σ = [some (.ref tr), some (.ref wq), some (.ref p), some (.ref a), some (.ref b), some (.ref u), some (.ref d), some (.int (wy.1 : Nat)), some (.int (wy.2 : Nat)), some (.ref lu), some (.ref ld), some (.int (k : Nat)), none, none, none, none] ∧ k ≤ min l1.length l2.length ∧ l1.drop (l1.length - k) = l2.drop (l2.length - k), ⟨_, 0, rfl, rfl, rfl, Nat.zero_le _, by rw [Nat.sub_zero, Nat.sub_zero, List.drop_length, List.drop_length]⟩, ?_⟩
    rintro n σ H' ⟨k, rfl, rfl, rfl, kl, suf⟩
    refine wh_two (k < min l1.length l2.length ∧ l1[l1.length - (k + 1)]? = l2[l2.length - (k + 1)]?) (k = min l1.length l2.length ∨ l1[l1.length - (k + 1)]? ≠ l2[l2.length - (k + 1)]?) (fun Q' qt qf => ?_) (fun f => ?_) (fun f => ?_)
    · refine ⟨_, rfl, _, rfl, lu, us, rfl, .inl (SqL.of hus), _, rfl, ld, ds, rfl, .inl (SqL.of hds), _, _, rfl, _, _, rfl, rfl, _, rfl, ?_⟩
      by_cases c : k < min l1.length l2.length
      · rw [decide_eq_true (by split <;> omega)]
        refine iteT ?_
        have g1 : us[us.length - (k + 1)]? = some (us[us.length - (k + 1)]'(by omega)) := List.getElem?_eq_getElem _
        have g2 : ds[ds.length - (k + 1)]? = some (ds[ds.length - (k + 1)]'(by omega)) := List.getElem?_eq_getElem _
        obtain ⟨w1, hw1, iw1⟩ := aus.at g1
        obtain ⟨w2, hw2, iw2⟩ := ads.at g2
        refine ⟨_, rfl, 1, rfl, _, rfl, _, _, rfl, rfl, lu, us, _, _, rfl, rfl, SqL.of hus, atI_back (by omega) g1, _, rfl, 1, rfl, _, rfl, _, _, rfl, rfl, ld, ds, _, _, rfl, rfl, SqL.of hds, atI_back (by omega) g2, _, _, dp_wy iw1, dp_wy iw2, rfl, rfl, _, rfl, ?_⟩
        rw [eqv_wy]
        rw [lus] at hw1
        rw [lds] at hw2
        by_cases e : w1 = w2
        · rw [decide_eq_true e]
          exact qt ⟨c, by rw [hw1, hw2, e]⟩
        · rw [decide_eq_false e]
          exact qf (.inr (by rw [hw1, hw2]; exact fun z => e (Option.some.inj z)))
      · rw [decide_eq_false (by split <;> omega)]
        exact iteF (qf (.inl (by omega)))
    · obtain ⟨c, e⟩ := f
      refine ⟨fun σ2 H2 => H = H2 ∧ σ2 = [some (.ref tr), some (.ref wq), some (.ref p), some (.ref a), some (.ref b), some (.ref u), some (.ref d), some (.int (wy.1 : Nat)), some (.int (wy.2 : Nat)), some (.ref lu), some (.ref ld), some (.int ((k + 1 : Nat) : Int)), none, none, none, none], ?_, ?_⟩
      · rintro σ2 H2 ⟨rfl, rfl⟩
        refine ⟨min l1.length l2.length - (k + 1), by omega, k + 1, rfl, rfl, rfl, by omega, ?_⟩
        have i1 : l1.length - (k + 1) < l1.length := by omega
        have i2 : l2.length - (k + 1) < l2.length := by omega
        rw [List.getElem?_eq_getElem i1, List.getElem?_eq_getElem i2] at e
        rw [List.drop_eq_getElem_cons i1, List.drop_eq_getElem_cons i2, Option.some.inj e]
        congr 1
        rw [show l1.length - (k + 1) + 1 = l1.length - k by omega, show l2.length - (k + 1) + 1 = l2.length - k by omega]
        exact suf
      · exact ⟨_, rfl, _, _, rfl, rfl, rfl, rfl⟩
    · -- the ring
      have k1 : k ≤ l1.length := by omega
      have k2 : k ≤ l2.length := by omega
      have x0 : ∀ n : Nat, n ≤ 60 → k ≤ n → ((n : Int) - (k : Nat)) = ((n - k : Nat) : Int) := fun n _ h => by omega
      refine ⟨_, rfl, _, rfl, lu, us, rfl, .inl (SqL.of hus), _, rfl, _, _, rfl, rfl, _, rfl, lu, us, rfl, SqL.of hus, fun p1 np1 => ?_⟩
      rw [x0 _ (by omega) (by omega), cut_to (Nat.sub_le _ _)]
      have x1 := same_upd (o := .lst (us.take (us.length - k))) np1
      have u1 := @upd_same H p1 (.lst (us.take (us.length - k)))
      generalize upd H p1 (.lst (us.take (us.length - k))) = H1 at *
      refine ⟨_, rfl, _, rfl, ld, ds, rfl, .inl (SqL.of (x1 _ _ hds)), _, rfl, _, _, rfl, rfl, _, rfl, ld, ds, rfl, SqL.of (x1 _ _ hds), fun p2 np2 => ?_⟩
      rw [x0 _ (by omega) (by omega), cut_to (Nat.sub_le _ _)]
      have x2 := same_upd (o := .lst (ds.take (ds.length - k))) np2
      have d2 := @upd_same H1 p2 (.lst (ds.take (ds.length - k)))
      generalize upd H1 p2 (.lst (ds.take (ds.length - k))) = H2 at *
      have u2 := x2 _ _ u1
      have aU : AllAre (IsWy H) (us.take (us.length - k)) (l1.take (l1.length - k)) := by rw [lus]; exact aus.take _
      have aD : AllAre (IsWy H) (ds.take (ds.length - k)) (l2.take (l2.length - k)) := by rw [lds]; exact ads.take _
      generalize us.take (us.length - k) = U1 at *
      generalize ds.take (ds.length - k) = D1 at *
      have st : ∀ w, (l1.take (l1.length - k)).getLast? = some w → (l2.take (l2.length - k)).getLast? ≠ some w := fun w h1 h2 => by
        by_cases c1 : k = l1.length
        · rw [c1, Nat.sub_self] at h1
          cases h1
        by_cases c2 : k = l2.length
        · rw [c2, Nat.sub_self] at h2
          cases h2
        rw [last_take (by omega) (Nat.sub_le _ _)] at h1 h2
        rcases f with f | f
        · omega
        · exact f (by rw [show l1.length - (k + 1) = l1.length - k - 1 by omega, show l2.length - (k + 1) = l2.length - k - 1 by omega, h1, h2])
      have q1 : pth h (.row wy.1) = l1.take (l1.length - k) ++ l1.drop (l1.length - k) := by rw [List.take_append_drop, hl1]
      have q2 : pth h (.col wy.2) = l2.take (l2.length - k) ++ l1.drop (l1.length - k) := by rw [suf, List.take_append_drop, hl2]
      have lu1 : (l1.take (l1.length - k)).length ≤ 60 := by rw [List.length_take]; omega
      have ld1 : (l2.take (l2.length - k)).length ≤ 60 := by rw [List.length_take]; omega
      generalize l1.take (l1.length - k) = up at *
      generalize l2.take (l2.length - k) = down at *
      generalize l1.drop (l1.length - k) = sf at *
      refine ⟨_, rfl, p1, U1, rfl, SqL.of u2, fun p3 np3 => ⟨_, rfl, p2, D1, rfl, SqL.of (same_upd np3 _ _ d2), fun p4 np4 => ?_⟩⟩
      have x3 := same_upd (o := .lst (evensL U1)) np3
      have u3 := @upd_same H2 p3 (.lst (evensL U1))
      generalize upd H2 p3 (.lst (evensL U1)) = H3 at *
      have x4 := same_upd (o := .lst (evensL D1)) np4
      have d4 := @upd_same H3 p4 (.lst (evensL D1))
      generalize upd H3 p4 (.lst (evensL D1)) = H4 at *
      have lU := aU.1
      have lD := aD.1
      have gl : (evensL U1 ++ evensL D1).length ≤ 120 := by
        have := evens_len U1
        have := evens_len D1
        rw [List.length_append]
        omega
      refine ⟨p3, p4, _, _, rfl, rfl, x4 _ _ u3, d4, by rw [← List.length_append]; exact Nat.le_of_lt (small1000 (by omega)), fun p5 np5 => ?_⟩
      have x5 := same_upd (o := .lst (evensL U1 ++ evensL D1)) np5
      have g5 := @upd_same H4 p5 (.lst (evensL U1 ++ evensL D1))
      generalize upd H4 p5 (.lst (evensL U1 ++ evensL D1)) = H5 at *
      have s05 : Same H H5 := x1.trans (x2.trans (x3.trans (x4.trans x5)))
      have aG0 : AllAre (IsWy H) (evensL U1 ++ evensL D1) (evensL up ++ evensL down) := aU.evens.append aD.evens
      obtain ⟨G, eG⟩ : ∃ G, G = evensL up ++ evensL down := ⟨_, rfl⟩
      rw [← eG] at aG0
      have apart := ring_apart hT q1 q2 st
      have nu : up.Nodup := (List.nodup_append.mp (q1 ▸ hT.pnodup (.row wy.1))).1
      have nd0 : down.Nodup := (List.nodup_append.mp (q2 ▸ hT.pnodup (.col wy.2))).1
      have nall : (up ++ down).Nodup := List.nodup_append.mpr ⟨nu, nd0, fun a ha b hb e => apart a ha (e ▸ hb)⟩
      have inW : ∀ w ∈ up ++ down, w ∈ t.map (·.1) := fun w hw => by
        refine pm.mem_iff.mpr ?_
        rcases List.mem_append.mp hw with hw | hw
        · exact pth_sub (v := .row wy.1) (by rw [q1]; exact List.mem_append_left _ hw)
        · exact pth_sub (v := .col wy.2) (by rw [q2]; exact List.mem_append_left _ hw)
      have subG : G.Sublist (up ++ down) := by rw [eG]; exact (evens_sub up).append (evens_sub down)
      have inG : ∀ w ∈ G, w ∈ t.map (·.1) := fun w hw => inW w (subG.subset hw)
      have ngG : G.Nodup := subG.nodup nall
      have tn := Tr.nd
      have tl : t.length ≤ 900 := by
        have := Tr.len
        omega
      -- the least of what can be given
      refine ⟨_, rfl, p5, rfl, ⟨_, SqL.of g5⟩, fun D nD => lc_all (K := K) (a := p5) (xs := evensL U1 ++ evensL D1) (fun i y F => ∃ w, G[i]? = some w ∧ IsGap (valOf t) F y w) (fun _ _ _ _ s ⟨w, h1, h2⟩ => ⟨w, h1, h2.lt (.of s)⟩) nD (SqL.of g5) (by omega) (fun i x H6 kk hi s6 eD hk => ?_) (fun H6 ys s6 e6 l6 r6 => ?_)⟩
      · obtain ⟨w, hw, q0, rfl, hq⟩ := aG0.at hi
        obtain ⟨a', ha'⟩ := in_keys (inG w (List.mem_of_getElem? hw))
        have S6 : Same H H6 := s05.trans (s6.trans hid_same)
        have g := DGet.t (k := wk w) (S6 _ _ ht) (S6 _ _ hq)
        rw [tk_val tn ha'] at g
        refine ⟨rfl, _, rfl, _, rfl, tr, _, rfl, g, _, rfl, by show 2 ≤ sizeLine; decide, fun q3 nq3 => ?_⟩
        refine hk _ _ (same_upd nq3) ⟨w, hw, q3, q0, rfl, ?_, ?_⟩
        · rw [valOf_in tn ha']
          obtain ⟨zs, hzs⟩ := eD
          have qD : q3 ≠ D := fun z => by rw [z, hzs] at nq3; cases nq3
          rw [hid_ne qD]
          exact upd_same
        · obtain ⟨zs, hzs⟩ := eD
          have qD : q0 ≠ D := fun z => by
            have := S6 _ _ hq
            rw [z, hzs] at this
            cases this
          rw [hid_ne qD]
          exact same_upd nq3 _ _ (S6 _ _ hq)
      · have s06 : Same H H6 := s05.trans (s6.trans hid_same)
        have s56 : Same H5 H6 := s6.trans hid_same
        have g6 := s56 _ _ g5
        have u6 := s56 _ _ (x5 _ _ (x4 _ _ (x3 _ _ u2)))
        have d6 := s56 _ _ (x5 _ _ (x4 _ _ (x3 _ _ d2)))
        have hw6 := s06 _ _ hw
        have ht6 := s06 _ _ ht
        have aG : AllAre (IsWy H6) (evensL U1 ++ evensL D1) G := aG0.imp fun _ _ ⟨q, e, h⟩ => ⟨q, e, s06 _ _ h⟩
        have aT : AllAre (IsWy H6) (evensL (U1.drop 1) ++ evensL (D1.drop 1)) (evensL (up.drop 1) ++ evensL (down.drop 1)) := ((aU.drop 1).evens.append (aD.drop 1).evens).imp fun _ _ ⟨q, e, h⟩ => ⟨q, e, s06 _ _ h⟩
        have aY : AllAre (IsGap (valOf t) H6) ys G := AllAre.of_ix (by rw [l6, aG.1]) fun i y hy => (r6 i y hy).elim fun w h => ⟨w, h.1, h.2.lt (.of hid_same)⟩
        clear r6 s6 x1 x2 x3 x4 x5 s05 s56 g5 np1 np2 np3 np4 np5 u3 d4 u2 d2 u1 aG0 nD
        have Gne : G ≠ [] := fun z => by
          rw [eG] at z
          obtain ⟨z1, z2⟩ := List.append_eq_nil_iff.mp z
          have e0 : ∀ l : List Wy, evensL l = [] → l = [] := fun l h => by
            match l, h with
            | [], _ => rfl
            | [_], h => cases h
            | _ :: _ :: _, h => cases h
          rw [e0 _ z1] at q1
          rw [e0 _ z2] at q2
          cases hT.inj ((jr _).mpr wr) ((jc _).mpr wc) (q1.trans q2.symm)
        cases G with
        | nil => exact absurd rfl Gne
        | cons p0 ps =>
          have aY' := aY
          refine ⟨D, _, gd (valOf t) p0, ps.map (gd (valOf t)), rfl, SqL.of e6, gd_all aY', ⟨fun x hx y hy => ?_, fun x hx => ?_⟩, gd_depth (valOf t) (p0 :: ps), fun i x hx hd => ?_⟩
          · obtain ⟨a, _, rfl⟩ := List.mem_map.mp (show x ∈ (p0 :: ps).map (gd (valOf t)) from hx)
            obtain ⟨b, _, rfl⟩ := List.mem_map.mp (show y ∈ (p0 :: ps).map (gd (valOf t)) from hy)
            rfl
          · obtain ⟨a, _, rfl⟩ := List.mem_map.mp (show x ∈ (p0 :: ps).map (gd (valOf t)) from hx)
            exact nofun
          · obtain ⟨w', hw', em, le⟩ := gd_min (valOf t) ps p0
            rw [em] at hd
            obtain ⟨gone, hp', ig⟩ := aY.at hx
            have hd1 : ((p0 :: ps).map (gd (valOf t)))[i]? = some (gd (valOf t) w') := hd
            rw [List.getElem?_map, hp'] at hd1
            have ge : valOf t gone = valOf t w' := PyData.int.inj (List.cons.inj (PyData.tuple.inj (Option.some.inj hd1))).1
            obtain ⟨m, gm⟩ := in_keys (inG gone (List.mem_of_getElem? hp'))
            have vm := valOf_in tn gm
            rw [vm] at ge
            obtain ⟨y2, y1, rfl, y3, y4⟩ := ig
            rw [vm] at y3
            have least : ∀ p ∈ t, p.1 ∈ p0 :: ps → m ≤ p.2 := fun p hp hin => by
              rw [ge, ← valOf_in tn (w := p.1) (a := p.2) hp]
              exact le _ hin
            have gin := List.mem_of_getElem? hp'
            clear hd hd1 em le ge hw' w' hp' vm
            generalize p0 :: ps = G at *
            refine ⟨y2, _, rfl, .inl (.inl y3), rfl, _, _, rfl, _, _, rfl, rfl, ?_⟩
            -- what gives
            refine ⟨_, rfl, p5, rfl, ⟨_, SqL.of g6⟩, for_list (K := K) (a := p5) (xs := evensL U1 ++ evensL D1) (fun i σ H' => ∃ z : Option V, σ = [some (.ref tr), some (.ref wq), some (.ref p), some (.ref a), some (.ref b), some (.ref u), some (.ref d), some (.int (wy.1 : Nat)), some (.int (wy.2 : Nat)), some (.ref p1), some (.ref p2), some (.int (k : Nat)), some (.ref p5), some (.int m), some (.ref y1), z] ∧
              Same (hid tr H) (hid tr H') ∧ LT H6 H' ∧ H' tr = some (.dT (tk (shift t (G.take i) (-m))))) ⟨_, rfl, ?_, .refl _, ?_⟩ (fun i σ H' _ h => ?_) (fun i x σ H' hx h => ?_) (fun σ H' h => ?_)⟩
            · exact hid_mono s06
            · rw [List.take_zero, shift_nil]
              exact ht6
            · obtain ⟨_, _, _, l7, _⟩ := h
              exact SqL.of ((l7 _ _).1 g6)
            · obtain ⟨z, rfl, s7, l7, et⟩ := h
              obtain ⟨w, hw, q0, rfl, hq⟩ := aG.at hx
              obtain ⟨a', ha'⟩ := in_keys (inG w (List.mem_of_getElem? hw))
              obtain ⟨g, pt⟩ := shift_go (x := a' - m) tn tl et ((l7 _ _).2 hq) hw ngG ha' (by omega)
              refine ⟨_, rfl, _, rfl, tr, _, rfl, g, _, rfl, _, _, rfl, rfl, _, pt, _, rfl, ?_, l7.trans (LT.dT et), upd_same⟩
              rw [hid_upd]
              exact s7
            · obtain ⟨z, rfl, s7, l7, et⟩ := h
              rw [List.take_of_length_le (by rw [aG.1]; exact Nat.le_refl _)] at et
              have u7 := (l7 _ _).1 u6
              have d7 := (l7 _ _).1 d6
              refine ⟨_, rfl, p1, U1, rfl, SqL.of u7, fun p3 np3 => ⟨_, rfl, p2, D1, rfl, SqL.of (same_upd np3 _ _ d7), fun p4 np4 => ?_⟩⟩
              have x3 := same_upd (o := .lst (evensL (U1.drop 1))) np3
              have u3 := @upd_same H' p3 (.lst (evensL (U1.drop 1)))
              generalize upd H' p3 (.lst (evensL (U1.drop 1))) = H8 at *
              have x4 := same_upd (o := .lst (evensL (D1.drop 1))) np4
              have d4 := @upd_same H8 p4 (.lst (evensL (D1.drop 1)))
              generalize upd H8 p4 (.lst (evensL (D1.drop 1))) = H9 at *
              have gl2 : (evensL (U1.drop 1) ++ evensL (D1.drop 1)).length ≤ 120 := by
                have := evens_len (U1.drop 1)
                have := evens_len (D1.drop 1)
                rw [List.length_drop] at *
                rw [List.length_append]
                omega
              refine ⟨p3, p4, _, _, rfl, rfl, x4 _ _ u3, d4, by rw [← List.length_append]; exact Nat.le_of_lt (small1000 (by omega)), fun p6 np6 => ?_⟩
              have x6 := same_upd (o := .lst (evensL (U1.drop 1) ++ evensL (D1.drop 1))) np6
              have g7 := @upd_same H9 p6 (.lst (evensL (U1.drop 1) ++ evensL (D1.drop 1)))
              generalize upd H9 p6 (.lst (evensL (U1.drop 1) ++ evensL (D1.drop 1))) = H10 at *
              have x := x3.trans (x4.trans x6)
              have l9 : LT H6 H10 := l7.trans (.of x)
              obtain ⟨G2, eG2⟩ : ∃ G2, G2 = evensL (up.drop 1) ++ evensL (down.drop 1) := ⟨_, rfl⟩
              rw [← eG2] at aT
              have subG2 : G2.Sublist (up ++ down) := by rw [eG2]; exact ((evens_sub _).trans (List.drop_sublist _ _)).append ((evens_sub _).trans (List.drop_sublist _ _))
              have tn1 : ((shift t G (-m)).map (·.1)).Nodup := by rw [shift_keys]; exact tn
              refine ⟨p6, rfl, ⟨_, SqL.of g7⟩, for_list (K := K) (a := p6) (xs := evensL (U1.drop 1) ++ evensL (D1.drop 1)) (fun i σ H' => ∃ z : Option V, σ = [some (.ref tr), some (.ref wq), some (.ref p), some (.ref a), some (.ref b), some (.ref u), some (.ref d), some (.int (wy.1 : Nat)), some (.int (wy.2 : Nat)), some (.ref p1), some (.ref p2), some (.int (k : Nat)), some (.ref p5), some (.int m), some (.ref y1), z] ∧
                Same (hid tr H) (hid tr H') ∧ LT H10 H' ∧ H' tr = some (.dT (tk (shift (shift t G (-m)) (G2.take i) m)))) ⟨_, rfl, s7.trans (hid_mono x), .refl _, ?_⟩ (fun i σ H' _ h => ?_) (fun i x σ H' hx h => ?_) (fun σ H' h => ?_)⟩
              · rw [List.take_zero, shift_nil]
                exact x _ _ et
              · obtain ⟨_, _, _, l7, _⟩ := h
                exact SqL.of ((l7 _ _).1 g7)
              · obtain ⟨z, rfl, s7, l7, et⟩ := h
                obtain ⟨w, hw, q0, rfl, hq⟩ := aT.at hx
                obtain ⟨a', ha'⟩ := in_keys (t := shift t G (-m)) (by rw [shift_keys]; exact inW w (subG2.subset (List.mem_of_getElem? hw)))
                obtain ⟨g, pt⟩ := shift_go (x := a' + m) tn1 (by rw [shift, List.length_map]; exact tl) et ((l7 _ _).2 ((l9 _ _).2 hq)) hw (subG2.nodup nall) ha' rfl
                refine ⟨_, rfl, _, rfl, tr, _, rfl, g, _, rfl, _, _, rfl, rfl, _, pt, _, rfl, ?_, l7.trans (LT.dT et), upd_same⟩
                rw [hid_upd]
                exact s7
              · obtain ⟨z, rfl, s7, l7, et⟩ := h
                rw [List.take_of_length_le (by rw [aT.1]; exact Nat.le_refl _)] at et
                obtain ⟨T2, less, fresh⟩ := exchanged (cost := C) nr nc nd Tr hT pm wr wc ((jr _).mpr wr) ((jc _).mpr wc) neg q1 q2 st (m := m) (gone := gone) (by rw [← eG]; exact gin) gm (by rw [← eG]; exact least)
                rw [← eG, ← eG2] at T2 less
                generalize eT1 : shift (shift t G (-m)) G2 m = t1 at *
                have k1 : t1.map (·.1) = t.map (·.1) := by rw [← eT1, shift_keys, shift_keys]
                have n1 : (t1.map (·.1)).Nodup := by rw [k1]; exact tn
                obtain ⟨b', hb'⟩ := in_keys (t := t1) (w := gone) (by rw [k1]; exact inG _ gin)
                refine ⟨_, rfl, _, rfl, tr, _, wk gone, y1, rfl, et, rfl, (l7 _ _).2 ((l9 _ _).2 y4), by rw [tk_val n1 hb']; rfl, ?_⟩
                rw [tk_drop]
                have hwz : (upd H' tr (.dT (tk (t1.filter fun p => decide (p.1 ≠ gone))))) wq = some (.tup ((wk wy).map kV)) := (LT.dT et _ _).2 ((l7 _ _).2 ((l9 _ _).2 hw6))
                refine ⟨_, rfl, _, rfl, _, rfl, tr, _, rfl, DPut.t upd_same hwz (small1000 ?_), ?_⟩
                · have l1 : t1.length = t.length := by
                    have := congrArg List.length k1
                    rwa [List.length_map, List.length_map] at this
                  have := List.length_filter_le (fun p : Wy × Int => decide (p.1 ≠ gone)) t1
                  rw [tk_len]
                  omega
                · rw [tk_new (fun z => fresh ?_)]
                  · refine q _ _ ?_ upd_same T2 less
                    rw [hid_upd, hid_upd]
                    exact s7
                  · rw [← k1]
                    obtain ⟨o, ho, e⟩ := List.mem_map.mp z
                    exact List.mem_map.mpr ⟨o, (List.mem_filter.mp ho).1, e⟩
end

end Fb

namespace Fb
open PySem PySem.Spec PyProof.Rows L2
section
variable {P : Program} {w : World} {K : PySem.W.Frag} {mg : Str → Option Value} {base : Heap}
/-! ### amounts as they would be -/
def rndA (m : Nat) (t : List (Wy × Int)) : List (Wy × Int) := t.map fun p => (p.1, (p.2 + m) / (2 * (m : Int) + 1))
def rnd (m : Nat) (t : List (Wy × Int)) : List (Wy × Int) := (rndA m t).filter fun p => decide (0 < p.2)
def spRounded : Sp := fun vs H Q _ => ∃ (tr : Addr) (rows : List Nat) (t : List (Wy × Int)), vs = [.ref tr] ∧ H tr = some (.dT (tk t)) ∧ (t.map (·.1)).Nodup ∧ t.length ≤ 60 ∧ rows.Nodup ∧ rows.length ≤ 30 ∧ (∀ w : Wy, w ∈ t.map (·.1) → w.1 ∈ rows) ∧ (∀ r ∈ rows, ∃ w : Wy, w ∈ t.map (·.1) ∧ w.1 = r) ∧
  ∀ H' D, H D = none → Same H H' → H' D = some (.dT (tk (rnd rows.length t))) → Q (.ref D) H'
set_option maxHeartbeats 800000 in
theorem ok_p_rounded (T : Txt K mg) : FnOk P w K mg base CX0 2 T.f_p_rounded T.d_p_rounded ["tree"] spRounded := by
  refine T.F_p_rounded.ok sc_p_rounded (fun vs H Q E h => ?_) (fun cdv A outer s H vs Q E hr h => ?_)
  · obtain ⟨tr, rows, t, rfl, _⟩ := h
    rfl
  · obtain ⟨tr, rows, t, rfl, ht, tn, tl, nr, lr, inr, cov, q⟩ := h
    refine ⟨_, (pss_cons (ps_set (i := 1) sc_p_rounded.nd rfl (.inr rfl) (pe_callB call_lenI (by rfl) T.z_len (by decide +kernel) (pa_cons (pe_lock (pe_scI (units1 hr.units) (own := [("row", 3), ("column", 4)]) (g := (gTup K 2 (gCons (gName 3) (gCons (gName 4) gNil)))) (tt := tYes) (by rfl) sc_p_rounded.nd (pi_keys (pv 0)) (blkOk_by (own := [("row", 3), ("column", 4)]) (N := ["tree", "many", "amounts", "row", "column", "way", "amount"]) (sc := defScope s_p_rounded) (by decide +kernel)) (fun _ _ _ _ _ => by exact (pg_tup (by rfl) (pgs_cons (pg_name (i := 3) sc_p_rounded.nd rfl (.inl rfl)) (pgs_cons (pg_name (i := 4) sc_p_rounded.nd rfl (.inl rfl)) pgs_nil)))) (fun _ _ _ _ _ => by exact pts_nil) (fun _ _ _ _ _ => by exact (pv 3)))) pa_nil)))
 (pss_cons (ps_lock (ps_setDcT (units1 hr.units) rfl (i := 2) (own := [("way", 5), ("amount", 6)]) (g := (gTup K 2 (gCons (gName 5) (gCons (gName 6) gNil)))) (tt := tYes) sc_p_rounded.nd rfl rfl (sw_trueD rfl rfl rfl (by decide +kernel)) (pi_itemsT (pv 0)) (blkOk_by (own := [("way", 5), ("amount", 6)]) (N := ["tree", "many", "amounts", "row", "column", "way", "amount"]) (sc := defScope s_p_rounded) (by decide +kernel)) (fun _ _ _ _ _ => by exact (pg_tup (by rfl) (pgs_cons (pg_name (i := 5) sc_p_rounded.nd rfl (.inl rfl)) (pgs_cons (pg_name (i := 6) sc_p_rounded.nd rfl (.inl rfl)) pgs_nil)))) (fun _ _ _ _ _ => by exact pts_nil) (fun _ _ _ _ _ => by exact (pv 5)) (fun _ _ _ _ _ => by exact (pe_op op_fdivW (pe_op op_add (pv 6) (pv 1)) (pe_call (ok_p_unit_for T) (hr.mono (by decide)) (by rfl) T.g_p_unit_for T.F_p_unit_for.kp T.b_p_unit_for .nil pass0 (pa_cons (pv 1) pa_nil))))))
 (pss_one (ps_ret (pe_lock (pe_dcT (units1 hr.units) rfl (own := [("way", 5), ("amount", 6)]) (g := (gTup K 2 (gCons (gName 5) (gCons (gName 6) gNil)))) (tt := _) sc_p_rounded.nd (pi_itemsT (pv 2)) (blkOk_by (own := [("way", 5), ("amount", 6)]) (N := ["tree", "many", "amounts", "row", "column", "way", "amount"]) (sc := defScope s_p_rounded) (by decide +kernel)) (fun _ _ _ _ _ => by exact (pg_tup (by rfl) (pgs_cons (pg_name (i := 5) sc_p_rounded.nd rfl (.inl rfl)) (pgs_cons (pg_name (i := 6) sc_p_rounded.nd rfl (.inl rfl)) pgs_nil)))) (fun _ _ _ _ _ => by exact (pts_one (pt_cmpR op_gt (pv 6) pe_int (nomark _)))) (fun _ _ _ _ _ => by exact (pv 5)) (fun _ _ _ _ _ => by exact (pv 6)))))))), ?_⟩
    refine ⟨tr, _, ht, True.intro, fun od => ?_⟩
    have f1 := @upd_same H tr (.frz od (.dT (tk t)))
    have lock1 : ∀ {H5 : Hp}, Same (upd H tr (.frz od (.dT (tk t)))) H5 → Same H (upd H5 tr (.dT (tk t))) := fun {H5} s => lock_same ht s
    generalize upd H tr (.frz od (.dT (tk t))) = H1 at *
    refine ⟨_, rfl, tr, od, rfl, .inr ⟨_, f1, fun D nD => scI_it (walk_keysT (d := tr) (o := od) (kvs := tk t)) (fun i H' => Same H1 H' ∧ ∃ (S : Int → Bool) (L : List Nat), L.Nodup ∧ (∀ k, S k = true ↔ ∃ r ∈ L, k = (r : Nat)) ∧ (∀ r, r ∈ L ↔ ∃ p ∈ t.take i, p.1.1 = r) ∧ H' D = some (ISetO P w D S L.length)) ⟨same_upd nD, fun _ => false, [], List.nodup_nil, fun k => ⟨nofun, fun ⟨r, hr, _⟩ => nomatch hr⟩, fun r => ⟨nofun, fun ⟨p, hp, _⟩ => nomatch (show p ∈ ([] : List (Wy × Int)) from hp)⟩, upd_same⟩ (fun i H' _ h => h.1 _ _ f1) (fun i x H2 H3 hi h y => ?_) (fun H2 h => ?_)⟩⟩
    · obtain ⟨s2, S, L, nL, hS, hL, eD⟩ := h
      obtain ⟨rfl, k, v, q0, hk', rfl, hq⟩ := y
      unfold tk at hk'
      rw [List.getElem?_map] at hk'
      obtain ⟨p, hp, e⟩ := Option.map_eq_some_iff.mp hk'
      cases e
      have ln : L.length ≤ 30 := Nat.le_trans (sub_len nL fun r hr => by
        obtain ⟨p', hp', rfl⟩ := (hL r).mp hr
        exact inr _ (List.mem_map_of_mem (List.mem_of_mem_take hp'))) lr
      have tk1 : t.take (i + 1) = t.take i ++ [p] := by rw [List.take_add_one, hp]; rfl
      refine ⟨q0, _, rfl, .inl (.inl hq), rfl, _, _, rfl, _, _, rfl, rfl, rfl, ?_⟩
      refine ⟨_, rfl, _, S, L.length, rfl, eD, by show L.length + 1 < 4096; omega, same_over s2 nD, ?_⟩
      by_cases c : p.1.1 ∈ L
      · refine ⟨fun k' => S k' || decide (k' = ((p.1.1 : Nat) : Int)), L, nL, fun k => ?_, fun r => ?_, ?_⟩
        rotate_left 2
        · rw [upd_same, if_pos ((hS _).mpr ⟨_, c, rfl⟩)]
          rfl
        · rw [Bool.or_eq_true, decide_eq_true_iff, hS]
          exact ⟨fun z => z.elim id fun e => ⟨_, c, e⟩, .inl⟩
        · rw [hL, tk1]
          refine ⟨fun ⟨p', hp', e⟩ => ⟨p', List.mem_append_left _ hp', e⟩, fun ⟨p', hp', e⟩ => ?_⟩
          rcases List.mem_append.mp hp' with h | h
          · exact ⟨p', h, e⟩
          · rw [List.mem_singleton] at h
            rw [← e, h]
            exact (hL _).mp c
      · refine ⟨fun k' => S k' || decide (k' = ((p.1.1 : Nat) : Int)), p.1.1 :: L, List.nodup_cons.mpr ⟨c, nL⟩, fun k => ?_, fun r => ?_, ?_⟩
        rotate_left 2
        · rw [upd_same, if_neg (fun z => c ?_)]
          · rfl
          · obtain ⟨r, hr, e⟩ := (hS _).mp z
            have : p.1.1 = r := by omega
            rw [this]
            exact hr
        · rw [Bool.or_eq_true, decide_eq_true_iff, hS]
          refine ⟨fun z => z.elim (fun ⟨r, hr, e⟩ => ⟨r, List.mem_cons_of_mem _ hr, e⟩) fun e => ⟨_, List.mem_cons_self, e⟩, fun ⟨r, hr, e⟩ => ?_⟩
          rcases List.mem_cons.mp hr with h | h
          · exact .inr (by rw [e, h])
          · exact .inl ⟨r, h, e⟩
        · rw [List.mem_cons, hL, tk1]
          refine ⟨fun z => z.elim (fun e => ⟨p, List.mem_append_right _ List.mem_cons_self, e.symm⟩) fun ⟨p', hp', e⟩ => ⟨p', List.mem_append_left _ hp', e⟩, fun ⟨p', hp', e⟩ => ?_⟩
          rcases List.mem_append.mp hp' with h | h
          · exact .inr ⟨p', h, e⟩
          · rw [List.mem_singleton] at h
            exact .inl (by rw [← e, h])
    · obtain ⟨s2, S, L, nL, hS, hL, eD⟩ := h
      rw [tk_len, List.take_length] at hL
      have ln : L.length = rows.length := by
        refine Nat.le_antisymm (sub_len nL fun r hr => ?_) (sub_len nr fun r hr => ?_)
        · obtain ⟨p', hp', rfl⟩ := (hL r).mp hr
          exact inr _ (List.mem_map_of_mem hp')
        · obtain ⟨w, hw, rfl⟩ := cov r hr
          obtain ⟨p', hp', rfl⟩ := List.mem_map.mp hw
          exact (hL _).mpr ⟨p', hp', rfl⟩
      rw [ln] at eD
      have e5 := s2 _ _ f1
      refine ⟨e5, ?_⟩
      have s4 := lock1 s2
      have trD : D ≠ tr := fun z => by rw [z, f1] at nD; cases nD
      have eD4 := (upd_ne trD (o := .dT (tk t))).trans eD
      have ht4 := @upd_same H2 tr (.dT (tk t))
      generalize upd H2 tr (.dT (tk t)) = H4 at *
      refine ⟨D, S, _, rfl, eD4, by omega, ?_⟩
      refine ⟨tr, _, ht4, True.intro, fun od2 => ?_⟩
      have f2 := @upd_same H4 tr (.frz od2 (.dT (tk t)))
      have lock2 : ∀ {H5 : Hp}, Same (upd H4 tr (.frz od2 (.dT (tk t)))) H5 → Same H4 (upd H5 tr (.dT (tk t))) := fun {H5} s => lock_same ht4 s
      generalize upd H4 tr (.frz od2 (.dT (tk t))) = H6 at *
      refine ⟨_, rfl, tr, od2, _, rfl, f2, fun D2 nD2 => dcT_it (walk_itemsT (d := tr) (o := od2) (kvs := tk t)) (fun i H' => Same H6 H' ∧ H' D2 = some (.dT (tk (rndA rows.length (t.take i))))) ⟨same_upd nD2, by rw [List.take_zero]; exact upd_same⟩ (fun i H' _ h => h.1 _ _ f2) (fun i x H7 H8 hi h y => ?_) (fun H7 h => ?_)⟩
      · obtain ⟨s7, eA⟩ := h
        obtain ⟨T1, k, v, q0, hk', rfl, nT, hq, rfl⟩ := y
        unfold tk at hk'
        rw [List.getElem?_map] at hk'
        obtain ⟨p, hp, e⟩ := Option.map_eq_some_iff.mp hk'
        cases e
        have x1 := same_upd (o := .tup [.ref q0, .int p.2]) nT
        have tk1 : t.take (i + 1) = t.take i ++ [p] := by rw [List.take_add_one, hp]; rfl
        have new : p.1 ∉ (rndA rows.length (t.take i)).map (·.1) := fun z => by
          unfold rndA at z
          rw [List.map_map] at z
          obtain ⟨p', hp', e⟩ := List.mem_map.mp z
          obtain ⟨j, hj⟩ := List.getElem?_of_mem hp'
          rw [List.getElem?_take] at hj
          split at hj
          · have h1 : (t.map (·.1))[i]? = some p.1 := by rw [List.getElem?_map, hp]; rfl
            have h2 : (t.map (·.1))[j]? = some p.1 := by rw [List.getElem?_map, hj]; exact congrArg some e
            have := (List.getElem?_inj (List.getElem?_eq_some_iff.mp h1).1 tn).mp (h1.trans h2.symm)
            omega
          · cases hj
        have al : (rndA rows.length (t.take i)).length ≤ 60 := by
          unfold rndA
          rw [List.length_map, List.length_take]
          omega
        refine ⟨T1, _, rfl, .inl (.inl upd_same), rfl, _, _, rfl, _, _, rfl, rfl, rfl, ?_⟩
        refine ⟨_, rfl, _, rfl, _, rfl, _, _, rfl, rfl, _, rfl, _, rfl, by omega, _, _, rfl, rfl, ⟨by omega, ?_⟩, _, wk p.1, q0, rfl, x1 _ _ hq, x1 _ _ eA, small1000 (by rw [tk_len]; omega), same_over (s7.trans x1) nD2, ?_⟩
        · exact log_of (n := 64) (by decide) (by omega) (by decide)
        · rw [upd_same, tk_new new, tk1]
          unfold rndA
          rw [List.map_append]
          rfl
      · obtain ⟨s7, eA⟩ := h
        rw [tk_len, List.take_length] at eA
        refine ⟨s7 _ _ f2, ?_⟩
        have s8 := lock2 s7
        have trD2 : D2 ≠ tr := fun z => by rw [z, f2] at nD2; cases nD2
        have eA8 := (upd_ne trD2 (o := .dT (tk t))).trans eA
        generalize upd H7 tr (.dT (tk t)) = H8 at *
        obtain ⟨u, eu⟩ : ∃ u, u = rndA rows.length t := ⟨_, rfl⟩
        rw [← eu] at eA8
        have un : (u.map (·.1)).Nodup := by
          rw [eu]
          unfold rndA
          rw [List.map_map]
          exact tn
        have ul : u.length ≤ 60 := by
          rw [eu]
          unfold rndA
          rw [List.length_map]
          exact tl
        refine ⟨D2, _, eA8, True.intro, fun od3 => ?_⟩
        have f3 := @upd_same H8 D2 (.frz od3 (.dT (tk u)))
        have lock3 : ∀ {H5 : Hp}, Same (upd H8 D2 (.frz od3 (.dT (tk u)))) H5 → Same H8 (upd H5 D2 (.dT (tk u))) := fun {H5} s => lock_same eA8 s
        have back : ∀ b, b ≠ D2 → (upd H8 D2 (.frz od3 (.dT (tk u)))) b = H8 b := fun b h => upd_ne h
        generalize upd H8 D2 (.frz od3 (.dT (tk u))) = H9 at *
        refine ⟨_, rfl, D2, od3, _, rfl, f3, fun D3 nD3 => dcT_it (walk_itemsT (d := D2) (o := od3) (kvs := tk u)) (fun i H' => Same H9 H' ∧ H' D3 = some (.dT (tk ((u.take i).filter fun p => decide (0 < p.2))))) ⟨same_upd nD3, by rw [List.take_zero]; exact upd_same⟩ (fun i H' _ h => h.1 _ _ f3) (fun i x H7 H8 hi h y => ?_) (fun H7 h => ?_)⟩
        · obtain ⟨s9, eB⟩ := h
          obtain ⟨T1, k, v, q0, hk', rfl, nT, hq, rfl⟩ := y
          unfold tk at hk'
          rw [List.getElem?_map] at hk'
          obtain ⟨p, hp, e⟩ := Option.map_eq_some_iff.mp hk'
          cases e
          have x1 := same_upd (o := .tup [.ref q0, .int p.2]) nT
          have tk1 : u.take (i + 1) = u.take i ++ [p] := by rw [List.take_add_one, hp]; rfl
          have new : p.1 ∉ ((u.take i).filter fun p => decide (0 < p.2)).map (·.1) := fun z => by
            obtain ⟨p', hp', e⟩ := List.mem_map.mp z
            obtain ⟨j, hj⟩ := List.getElem?_of_mem (List.mem_filter.mp hp').1
            rw [List.getElem?_take] at hj
            split at hj
            · have h1 : (u.map (·.1))[i]? = some p.1 := by rw [List.getElem?_map, hp]; rfl
              have h2 : (u.map (·.1))[j]? = some p.1 := by rw [List.getElem?_map, hj]; exact congrArg some e
              have := (List.getElem?_inj (List.getElem?_eq_some_iff.mp h1).1 un).mp (h1.trans h2.symm)
              omega
            · cases hj
          have al : ((u.take i).filter fun p => decide (0 < p.2)).length ≤ 60 := by
            have h1 := List.length_filter_le (fun p : Wy × Int => decide (0 < p.2)) (u.take i)
            rw [List.length_take] at h1
            omega
          refine ⟨T1, _, rfl, .inl (.inl upd_same), rfl, _, _, rfl, _, _, rfl, rfl, rfl, ?_⟩
          refine ⟨_, rfl, _, _, rfl, rfl, _, rfl, ite2 (fun c => ?_) (fun c => ?_)⟩
          · refine ⟨_, rfl, _, rfl, _, wk p.1, q0, rfl, x1 _ _ hq, x1 _ _ eB, small1000 (by rw [tk_len]; omega), same_over (s9.trans x1) nD3, ?_⟩
            rw [upd_same, tk_new new, tk1, List.filter_append, List.filter_cons, if_pos c]
            rfl
          · refine ⟨s9.trans x1, ?_⟩
            rw [tk1, List.filter_append, List.filter_cons, if_neg c, List.filter_nil, List.append_nil]
            exact x1 _ _ eB
        · obtain ⟨s9, eB⟩ := h
          rw [tk_len, List.take_length] at eB
          refine ⟨s9 _ _ f3, ?_⟩
          have s10 := lock3 s9
          have n3 : D3 ≠ D2 := fun z => by rw [z, f3] at nD3; cases nD3
          refine q _ D3 ?_ ((s4.trans s8).trans s10) (((upd_ne n3).trans eB).trans (by rw [eu]; rfl))
          cases hz : H D3 with
          | none => rfl
          | some o =>
            rw [back _ n3, s8 _ _ (s4 _ _ hz)] at nD3
            cases nD3
end

end Fb

namespace Fb
open PySem PySem.Spec PyProof.Rows L2
section
variable {P : Program} {w : World} {K : PySem.W.Frag} {mg : Str → Option Value} {base : Heap}
/-! ### the prices of all places -/
theorem cr_maxK {X : Cx} (hK : X.K = K) (hc : X.calm = true) : CallR X (.builtin "max") (rMax K) := hK ▸ cr_max hc
theorem cr_minK {X : Cx} (hK : X.K = K) (hc : X.calm = true) : CallR X (.builtin "min") (rMin K) := hK ▸ cr_min hc
theorem ints_fn {R : Nat → Int → Prop} {ys : List V} {n : Nat} (l : ys.length = n) (h : ∀ i y, ys[i]? = some y → ∃ k, y = .int k ∧ R i k) : ∃ f : Nat → Int, ys = (List.range n).map (fun i => V.int (f i)) ∧ ∀ i, i < n → R i (f i) := by
  obtain ⟨f, hf⟩ : ∃ f : Nat → Int, f = fun i => match ys[i]? with | some (.int k) => k | _ => 0 := ⟨_, rfl⟩
  have at_ : ∀ i, i < n → ys[i]? = some (.int (f i)) ∧ R i (f i) := fun i hi => by
    have e : ys[i]? = some (ys[i]'(by omega)) := List.getElem?_eq_getElem _
    obtain ⟨k, hk, r⟩ := h i _ e
    rw [hk] at e
    have : f i = k := by rw [hf]; simp only [e]
    rw [this]
    exact ⟨e, r⟩
  refine ⟨f, List.ext_getElem? fun i => ?_, fun i hi => (at_ i hi).2⟩
  by_cases hi : i < n
  · rw [(at_ i hi).1, List.getElem?_map, List.getElem?_range hi]
    rfl
  · rw [List.getElem?_eq_none (by omega), List.getElem?_eq_none (by rw [List.length_map, List.length_range]; omega)]
/-- prices of all places, from the known ones of some rows -/
structure AllP (C : Wy → Int) (M N : Nat) (hr : List Nat) (f P Q : Nat → Int) : Prop where
  q1 : ∀ c, c < N → ∀ r ∈ hr, f r - C (r, c) ≤ Q c
  q2 : ∀ c, c < N → ∃ r ∈ hr, Q c = f r - C (r, c)
  p1 : ∀ r, r < M → ∀ c, c < N → P r ≤ C (r, c) + Q c
  p2 : ∀ r, r < M → ∃ c, c < N ∧ P r = C (r, c) + Q c
def spAllP : Sp := fun vs H Q _ => ∃ (cv : V) (d : Addr) (M N : Nat) (C : Wy → Int) (hr : List Nat) (f : Nat → Int), vs = [cv, .ref d] ∧ Costs H cv M N C ∧ 0 < M ∧ 0 < N ∧ M ≤ 60 ∧ N ≤ 60 ∧ H d = some (.dK (dk hr f)) ∧ hr ≠ [] ∧ hr.length ≤ 30 ∧ (∀ r ∈ hr, r < M) ∧
  ∀ H' p ph pt Pf Qf, Same H H' → H' p = some (.tup [.ref ph, .ref pt]) → H' ph = some (.lst ((List.range M).map fun i => .int (Pf i))) → H' pt = some (.lst ((List.range N).map fun i => .int (Qf i))) → AllP C M N hr f Pf Qf → Q (.ref p) H'
set_option maxHeartbeats 800000 in
theorem ok_p_all_prices (T : Txt K mg) : FnOk P w K mg base CX0 1 T.f_p_all_prices T.d_p_all_prices ["costs", "known"] spAllP := by
  refine T.F_p_all_prices.ok sc_p_all_prices (fun vs H Q E h => ?_) (fun cdv A outer s H vs Q E hr h => ?_)
  · obtain ⟨cv, d, M, N, C, hr, f, rfl, _⟩ := h
    rfl
  · obtain ⟨cv, d, M, N, C, ks, f, rfl, hC, M0, N0, lM, lN, hd, kne, kl, kM, q⟩ := h
    refine ⟨_, (pss_cons (ps_set (i := 2) sc_p_all_prices.nd rfl (.inr rfl) (pe_lc (own := [("column", 4)]) (g := (gName 4)) (tt := tYes) (by rfl) sc_p_all_prices.nd (pi_range1 (by rfl) T.z_range (pa_cons (pe_callB call_len_seq (by rfl) T.z_len (by decide +kernel) (pa_cons (pe_ix ix_list (pv 0) pe_int (fun _ _ => rfl)) pa_nil)) pa_nil)) (blkOk_by (own := [("column", 4)]) (N := ["costs", "known", "there", "here", "column", "row", "line", "cost", "price"]) (sc := defScope s_p_all_prices) (by decide +kernel)) (fun _ _ _ _ _ => by exact (pg_name (i := 4) sc_p_all_prices.nd rfl (.inr rfl))) (fun _ _ _ _ _ => by exact pts_nil) (fun _ _ _ _ _ => by exact (pe_callB (cr_maxK (K := K) rfl rfl) (by rfl) T.z_max (by decide +kernel) (pa_cons (pe_lock (by exact (pe_lc (own := [("row", 5)]) (g := (gName 5)) (tt := tYes) (by rfl) sc_p_all_prices.nd (pi_keys (pv 1)) (by exact blkOk_by (own := [("row", 5)]) (by kernel_rfl)) (fun _ _ _ _ _ => by exact (pg_name (i := 5) sc_p_all_prices.nd rfl (.inl rfl))) (fun _ _ _ _ _ => by exact pts_nil) (fun _ _ _ _ _ => by exact (pe_op op_sub (pe_dget (units1 hr.units) (pv 1) (pv 5) (fun _ _ => rfl)) (pe_ix (ix_listK (K := K) rfl) (pe_ix (ix_listK (K := K) rfl) (pv 0) (pv 5) (fun _ _ => rfl)) (pv 4) (fun _ _ => rfl))))))) pa_nil)))))
 (pss_cons (ps_setLc (i := 3) (own := [("line", 6)]) (g := (gName 6)) (tt := tYes) (by rfl) sc_p_all_prices.nd rfl rfl (sw_true rfl rfl rfl (by decide +kernel)) (pi_list (pv 0)) (blkOk_by (own := [("line", 6)]) (N := ["costs", "known", "there", "here", "column", "row", "line", "cost", "price"]) (sc := defScope s_p_all_prices) (by decide +kernel)) (fun _ _ _ _ _ => by exact (pg_name (i := 6) sc_p_all_prices.nd rfl (.inl rfl))) (fun _ _ _ _ _ => by exact pts_nil) (fun _ _ _ _ _ => by exact (pe_callB (cr_minK (K := K) rfl rfl) (by rfl) T.z_min (by decide +kernel) (pa_cons (by exact (pe_lc (own := [("cost", 7), ("price", 8)]) (g := (gTup K 2 (gCons (gName 7) (gCons (gName 8) gNil)))) (tt := tYes) (by rfl) sc_p_all_prices.nd (pi_zipK (K := K) rfl (by rfl) T.z_zip (pa_cons (pv 6) (pa_cons (pv 2) pa_nil))) (by exact blkOk_by (own := [("cost", 7), ("price", 8)]) (by kernel_rfl)) (fun _ _ _ _ _ => by exact (pg_tup (by rfl) (pgs_cons (pg_name (i := 7) sc_p_all_prices.nd rfl (.inl rfl)) (pgs_cons (pg_name (i := 8) sc_p_all_prices.nd rfl (.inl rfl)) pgs_nil)))) (fun _ _ _ _ _ => by exact pts_nil) (fun _ _ _ _ _ => by exact (pe_op op_add (pv 7) (pv 8))))) pa_nil))))
 (pss_one (ps_ret (pe_tup (pa_cons (pv 3) (pa_cons (pv 2) pa_nil))))))), ?_⟩
    obtain ⟨a, rows, rfl, ha, rl, rat⟩ := hC
    obtain ⟨r0, g0, e0⟩ := rat 0 M0
    refine ⟨_, rfl, a, rows, _, _, rfl, rfl, SqL.of ha, atI_nat (j := 0) g0, r0, _, rfl, .inl (SqL.of e0), _, rfl, by omega, by rw [List.length_map, List.length_range]; omega, fun D nD => lc_allR (fun c y _ => ∃ k, y = .int k ∧ (∀ r ∈ ks, f r - C (r, c) ≤ k) ∧ ∃ r ∈ ks, k = f r - C (r, c)) (fun _ _ _ _ _ h => h) nD (by rw [List.length_map, List.length_range]; omega) (fun c H2 kk hc s2 eD hk => ?_) (fun H2 ys s2 e2 l2 r2 => ?_)⟩
    · have hc : c < N := by rw [List.length_map, List.length_range] at hc; omega
      have hd2 : H2 d = some (.dK (dk ks f)) := hid_same _ _ (s2 _ _ hd)
      refine ⟨rfl, d, _, hd2, True.intro, fun od => ?_⟩
      have f1 := @upd_same H2 d (.frz od (.dK (dk ks f)))
      have lock1 : ∀ {H5 : Hp}, Same (upd H2 d (.frz od (.dK (dk ks f)))) H5 → Same H2 (upd H5 d (.dK (dk ks f))) := fun {H5} s => lock_same hd2 s
      have lt1 : LT H2 (upd H2 d (.frz od (.dK (dk ks f)))) := LT.dK hd2
      generalize upd H2 d (.frz od (.dK (dk ks f))) = H3 at *
      have hC3 : Costs H3 (.ref a) M N C := ((show Costs H (.ref a) M N C from ⟨a, rows, rfl, ha, rl, rat⟩).mono (s2.trans hid_same)).lt lt1
      refine ⟨_, rfl, d, od, rfl, .inl ⟨_, f1, fun D2 nD2 => lc_allW (walk_keys (d := d) (o := od) (kvs := dk ks f)) (fun i y _ => ∃ r, ks[i]? = some r ∧ y = .int (f r - C (r, c))) (fun _ _ _ _ _ h => h) nD2 (fun H' s => s _ _ f1) (by rw [dk_len]; omega) (fun i x H4 H5 k2 hi s4 eD2 y hk2 => ?_) (fun H4 ys s4 e4 l4 r4 => ?_)⟩⟩
      · obtain ⟨rfl, k, v, hk', rfl⟩ := y
        obtain ⟨r, hr', rfl, _⟩ := kd_at hk'
        have S4 : Same H3 H5 := s4.trans hid_same
        have rin := List.mem_of_getElem? hr'
        obtain ⟨ca, crs, cra, crow, ea, g1, g2, g3, g4⟩ := cost_at (K := K) (hC3.mono S4) (kM r rin) hc
        cases ea
        exact ⟨rfl, _, rfl, _, rfl, d, _, rfl, dgKf (S4 _ _ f1) rin, _, rfl, _, rfl, a, crs, _, _, rfl, rfl, g1, g2, _, rfl, cra, crow, _, _, rfl, rfl, g3, (by rw [Int.zero_add]; exact g4), _, _, rfl, rfl, hk2 _ _ (Same.refl _) ⟨r, hr', rfl⟩⟩
      · have s34 := s4.trans hid_same
        refine ⟨s34 _ _ f1, ?_⟩
        have dD2 : D2 ≠ d := fun z => by rw [z, f1] at nD2; cases nD2
        have s24 := lock1 s34
        have e5 := (upd_ne dD2 (o := .dK (dk ks f))).trans e4
        generalize upd H4 d (.dK (dk ks f)) = H5 at *
        have ey : ys = (ks.map fun r => f r - C (r, c)).map V.int := by
          refine List.ext_getElem? fun i => ?_
          rw [dk_len] at l4
          by_cases hi : i < ks.length
          · have e : ys[i]? = some (ys[i]'(by omega)) := List.getElem?_eq_getElem _
            obtain ⟨r, h1, h2⟩ := r4 i _ e
            rw [e, h2, List.getElem?_map, List.getElem?_map, h1]
            rfl
          · rw [List.getElem?_eq_none (by omega), List.getElem?_eq_none (by rw [List.length_map, List.length_map]; omega)]
        rw [ey] at e5
        refine ⟨D2, _, rfl, SqL.of e5, by rw [List.length_map]; exact List.length_pos_iff.mpr kne, fun mx hmx ge => hk _ _ s24 ⟨mx, rfl, fun r hr' => ge _ (List.mem_map_of_mem hr'), ?_⟩⟩
        obtain ⟨r, hr', e⟩ := List.mem_map.mp hmx
        exact ⟨r, hr', e.symm⟩
    · have s02 := s2.trans hid_same
      obtain ⟨Qf, eQ, fQ⟩ := ints_fn (R := fun c k => (∀ r ∈ ks, f r - C (r, c) ≤ k) ∧ ∃ r ∈ ks, k = f r - C (r, c)) (n := N) (by rw [l2, Int.toNat_natCast, List.length_map, List.length_range]) r2
      rw [eQ] at e2
      clear r2 l2 eQ
      have hC2 := (show Costs H (.ref a) M N C from ⟨a, rows, rfl, ha, rl, rat⟩).mono s02
      refine ⟨_, rfl, a, rfl, ⟨_, SqL.of (s02 _ _ ha)⟩, fun D3 nD3 => lc_all (K := K) (a := a) (xs := rows) (fun i y _ => ∃ k, y = .int k ∧ (∀ c, c < N → k ≤ C (i, c) + Qf c) ∧ ∃ c, c < N ∧ k = C (i, c) + Qf c) (fun _ _ _ _ _ h => h) nD3 (SqL.of (s02 _ _ ha)) (by omega) (fun i x H3 kk hi s3 eD hk => ?_) (fun H3 ys3 s3 e3 l3 r3 => ?_)⟩
      · have il : i < M := by rw [← rl]; exact (List.getElem?_eq_some_iff.mp hi).1
        obtain ⟨ri, g1, e1⟩ := rat i il
        rw [g1] at hi
        cases hi
        have S3 := s02.trans (s3.trans hid_same)
        have e3 := S3 _ _ e1
        have et := hid_same _ _ (s3 _ _ e2)
        refine ⟨rfl, _, rfl, _, rfl, ri, D, _, _, rfl, SqL.of e3, SqL.of et, fun D4 nD4 => lc_allW (walk_zip (K := K) (a := ri) (b := D) (n := N) (by rw [List.length_map, List.length_map, List.length_range, Nat.min_self])) (fun c y _ => y = .int (C (i, c) + Qf c)) (fun _ _ _ _ _ h => h) nD4 (fun H' s => ⟨SqL.of (s _ _ e3), SqL.of (s _ _ et)⟩) (by omega) (fun c x H5 H6 k2 hc s5 eD5 y hk2 => ?_) (fun H5 ys s5 e5 l5 r5 => ?_)⟩
        · obtain ⟨t, x1, y1, rfl, nt, rfl, ex, ey⟩ := y
          have ex : ((List.range N).map fun j => V.int (C (i, j)))[c]? = some x1 := ex
          have ey : ((List.range N).map fun j => V.int (Qf j))[c]? = some y1 := ey
          rw [List.getElem?_map, List.getElem?_range hc] at ex ey
          cases ex
          cases ey
          refine ⟨t, _, rfl, .inl (.inl upd_same), rfl, _, _, rfl, _, _, rfl, rfl, rfl, ?_⟩
          exact ⟨_, rfl, _, rfl, _, _, rfl, rfl, hk2 _ _ (same_upd nt) rfl⟩
        · have ey : ys = ((List.range N).map fun c => C (i, c) + Qf c).map V.int := by
            refine List.ext_getElem? fun j => ?_
            by_cases hj : j < N
            · have e : ys[j]? = some (ys[j]'(by omega)) := List.getElem?_eq_getElem _
              rw [e, r5 j _ e, List.getElem?_map, List.getElem?_map, List.getElem?_range hj]
              rfl
            · rw [List.getElem?_eq_none (by omega), List.getElem?_eq_none (by rw [List.length_map, List.length_map, List.length_range]; omega)]
          rw [ey] at e5
          refine ⟨D4, _, rfl, SqL.of e5, by rw [List.length_map, List.length_range]; exact N0, fun mn hmn le => hk _ _ (s5.trans hid_same) ⟨mn, rfl, fun c hc => le _ (List.mem_map.mpr ⟨c, List.mem_range.mpr hc, rfl⟩), ?_⟩⟩
          obtain ⟨c, hc, e⟩ := List.mem_map.mp hmn
          exact ⟨c, List.mem_range.mp hc, e.symm⟩
      · obtain ⟨Pf, eP, fP⟩ := ints_fn (R := fun i k => (∀ c, c < N → k ≤ C (i, c) + Qf c) ∧ ∃ c, c < N ∧ k = C (i, c) + Qf c) l3 r3
        rw [eP] at e3
        have s23 := s3.trans hid_same
        refine ⟨_, rfl, _, rfl, by show 2 ≤ sizeLine; decide, fun p np => ?_⟩
        have x := same_upd (o := .tup [.ref D3, .ref D]) np
        rw [rl] at fP e3
        exact q _ p D3 D Pf Qf (s02.trans (s23.trans x)) upd_same (x _ _ e3) (x _ _ (s23 _ _ e2)) ⟨fun c hc => (fQ c hc).1, fun c hc => (fQ c hc).2, fun r hr => (fP r hr).1, fun r hr => (fP r hr).2⟩
end

end Fb

namespace Fb
open PySem PySem.Spec PyProof.Rows L2
section
variable {P : Program} {w : World} {K : PySem.W.Frag} {mg : Str → Option Value} {base : Heap}
/-! ### made cheaper -/
/-- no way that is shorter than the tree has it -/
def Ripe (C : Wy → Int) (rows cols : List Nat) (t : List (Wy × Int)) : Prop := ∃ root h, HT root h ∧ (t.map (·.1)).Perm (wys h) ∧ (∀ r, Nd.row r ∈ nds root h ↔ r ∈ rows) ∧ (∀ c, Nd.col c ∈ nds root h ↔ c ∈ cols) ∧ ∀ r ∈ rows, ∀ c ∈ cols, 0 ≤ gap C h (r, c)
theorem lt_hid {H H' : Hp} {a : Addr} {u : HO} (s : Same (hid a H) (hid a H')) (e : H a = some u) (nl : ∀ xs, u ≠ .lst xs) (nt : ∀ xs, u ≠ .tup xs) : LT H H' := fun b xs => by
  have go : ∀ {o : HO}, b ≠ a → H b = some o → H' b = some o := fun {o} ne h => by
    have := s b o ((hid_ne ne).trans h)
    rwa [hid_ne ne] at this
  refine ⟨fun h => ?_, fun h => ?_⟩
  · by_cases c : b = a
    · rw [c, e] at h
      exact absurd (Option.some.inj h) (nl xs)
    · exact go c h
  · by_cases c : b = a
    · rw [c, e] at h
      exact absurd (Option.some.inj h) (nt xs)
    · exact go c h
theorem HangIs.same {C : Wy → Int} {rows cols : List Nat} {t : List (Wy × Int)} {H H' : Hp} {p : Addr} {root : Nat} {h : Hg} (x : HangIs C rows cols t H p root h) (s : Same H H') : HangIs C rows cols t H' p root h := by
  obtain ⟨a, b, u, d, h1, h2, h3, h4, h5, h6, h7⟩ := x
  exact ⟨a, b, u, d, h1, s _ _ h2, h3, h4, h5.same s, h6, h7⟩
/-- each row has a way -/
theorem row_way {rows cols : List Nat} {s : Nd → Int} {t : List (Wy × Int)} (nr : rows.Nodup) (nc : cols.Nodup) (cne : cols ≠ []) (nd : Nondeg (plc rows cols) s) (f : Feas (plc rows cols) s t) {r : Nat} (hr : r ∈ rows) : ∃ w : Wy, w ∈ t.map (·.1) ∧ w.1 = r := by
  by_cases c : ∃ w : Wy, w ∈ t.map (·.1) ∧ w.1 = r
  · exact c
  · exfalso
    have rv : Nd.row r ∈ plc rows cols := row_plc.mpr hr
    have b0 : bal t (.row r) = 0 := vsum_zero fun p hp => if_neg fun z => c ⟨p.1, List.mem_map_of_mem hp, (of_decide_eq_true z).symm⟩
    have s0 : s (.row r) = 0 := by rw [← f.2 _ rv, b0]
    obtain ⟨c0, hc0⟩ := List.exists_mem_of_ne_nil cols cne
    have e := vsum_one (plc_nodup nr nc) (a := Nd.row r) fun v => v.ep * s v
    rw [if_pos rv, s0, Int.mul_zero] at e
    have := nd (fun v => decide (v = .row r)) (by
      refine (vsum_congr fun v _ => ?_).trans e
      by_cases q : v = .row r
      · rw [if_pos q, if_pos (decide_eq_true q)]
      · rw [if_neg q, if_neg (fun z => q (of_decide_eq_true z))]) ⟨_, rv, decide_eq_true rfl⟩ (.col c0) (col_plc.mpr hc0)
    exact Nd.noConfusion (of_decide_eq_true this)
def spCheapen (K : PySem.W.Frag) (CH : Addr) : Sp := fun vs H Q _ => ∃ (a dx tr : Addr) (fs : List (Str × V)) (cv : V) (M N : Nat) (C : Wy → Int) (rows cols : List Nat) (s : Nd → Int) (t : List (Wy × Int)), vs = [.ref a, cv] ∧ Costs H cv M N C ∧ H a = some (.ins CH dx fs) ∧ fs.lookup ("tree" : Str) = some (.ref tr) ∧ fs.length < 900 ∧
  H tr = some (.dT (tk t)) ∧ Tree rows cols s t ∧ Nondeg (plc rows cols) s ∧ rows.Nodup ∧ cols.Nodup ∧ rows ≠ [] ∧ cols ≠ [] ∧ rows.length ≤ 30 ∧ cols.length ≤ 30 ∧ (∀ r ∈ rows, r < M) ∧ (∀ c ∈ cols, c < N) ∧ (∀ r ∈ rows, ∀ c ∈ cols, 0 ≤ C (r, c)) ∧
  ∀ H' mv t', (∀ b o, H b = some o → b ≠ a → b ≠ tr → H' b = some o) → H' a = some (.ins CH dx (putF "moves" (.ref mv) fs)) → H' tr = some (.dT (tk t')) → Tree rows cols s t' → Ripe C rows cols t' → H mv = none → H' mv = some (.dT (tk (rnd rows.length t'))) → Q .non H'
set_option maxHeartbeats 800000 in
theorem ok_m_Haul_cheapen (T : Txt K mg) : FnOk P w K mg base CX0 3 T.f_m_Haul_cheapen T.d_m_Haul_cheapen ["self", "costs"] (spCheapen K T.c_Haul) := by
  refine T.F_m_Haul_cheapen.ok sc_m_Haul_cheapen (fun vs H Q E h => ?_) (fun cdv A outer s0 H vs Q E hr h => ?_)
  · obtain ⟨a, dx, tr, fs, cv, M, N, C, rows, cols, s, t, rfl, _⟩ := h
    rfl
  · obtain ⟨a, dx, tr, fs, cv, M, N, C, rows, cols, s, t, rfl, hC, ha, ft, fl, ht, Tr, nd, nr, nc, rne, cne, lr, lc, rM, cN, C0, q⟩ := h
    refine ⟨_, (pss_cons (ps_set (i := 2) sc_m_Haul_cheapen.nd rfl (.inl rfl) (pe_call (ok_p_hang T) (hr.mono (by decide)) (by rfl) T.g_p_hang T.F_p_hang.kp T.b_p_hang .nil pass0 (pa_cons (pv 1) (pa_cons (pe_fld (pv 0) rfl) pa_nil))))
 (pss_cons (ps_asg (pe_call (ok_p_widest_gap T) (hr.mono (by decide)) (by rfl) T.g_p_widest_gap T.F_p_widest_gap.kp T.b_p_widest_gap .nil pass0 (pa_cons (pv 1) (pa_cons (pv 2) pa_nil))) (pg_tup (by rfl) (pgs_cons (pg_name (i := 3) sc_m_Haul_cheapen.nd rfl (.inl rfl)) (pgs_cons (pg_name (i := 4) sc_m_Haul_cheapen.nd rfl (.inl rfl)) pgs_nil))))
 (pss_cons (ps_while PassesOwn.never (pt_cmpR op_lt (pv 3) pe_int (nomark _))
  (pss_cons (ps_expr (pe_call (ok_p_exchange T) (hr.mono (by decide)) (by rfl) T.g_p_exchange T.F_p_exchange.kp T.b_p_exchange .nil pass0 (pa_cons (pe_fld (pv 0) rfl) (pa_cons (pv 4) (pa_cons (pv 2) pa_nil)))))
 (pss_cons (ps_set (i := 2) sc_m_Haul_cheapen.nd rfl (.inl rfl) (pe_call (ok_p_hang T) (hr.mono (by decide)) (by rfl) T.g_p_hang T.F_p_hang.kp T.b_p_hang .nil pass0 (pa_cons (pv 1) (pa_cons (pe_fld (pv 0) rfl) pa_nil))))
 (pss_one (ps_asg (pe_call (ok_p_widest_gap T) (hr.mono (by decide)) (by rfl) T.g_p_widest_gap T.F_p_widest_gap.kp T.b_p_widest_gap .nil pass0 (pa_cons (pv 1) (pa_cons (pv 2) pa_nil))) (pg_tup (by rfl) (pgs_cons (pg_name (i := 3) sc_m_Haul_cheapen.nd rfl (.inl rfl)) (pgs_cons (pg_name (i := 4) sc_m_Haul_cheapen.nd rfl (.inl rfl)) pgs_nil))))))))
 (pss_one (ps_fld (pv 0) (pe_call (ok_p_rounded T) (hr.mono (by decide)) (by rfl) T.g_p_rounded T.F_p_rounded.kp T.b_p_rounded .nil pass0 (pa_cons (pe_fld (pv 0) rfl) pa_nil)) rfl))))), ?_⟩
    have atr : a ≠ tr := fun z => by rw [z, ht] at ha; cases ha
    refine ⟨_, rfl, _, rfl, a, T.c_Haul, dx, fs, _, rfl, ha, T.cl_Haul, T.n_Haul_tree, ft, cv, tr, M, N, C, rows, cols, s, t, rfl, hC, ht, Tr, nd, nr, nc, rne, cne, lr, lc, rM, cN, fun H1 p root h s1 hI => ?_⟩
    refine ⟨_, rfl, _, rfl, cv, p, M, N, C, rows, cols, t, root, h, rfl, hC.mono s1, hI, rne, cne, lr, lc, nr, nc, rM, cN, fun H2 q2 q1 w0 s2 wr wc le e2 e1 => ?_⟩
    refine ⟨q2, _, rfl, .inl (.inl e2), rfl, _, _, rfl, _, _, rfl, rfl, ?_⟩
    have s02 := s1.trans s2
    have htH := ht
    refine ⟨fun n σ H' => ∃ t' p root h q1 w0, n = (tsum t' C).toNat ∧ σ = [some (.ref a), some cv, some (.ref p), some (.int (gap C h w0)), some (.ref q1)] ∧ Same (hid tr H) (hid tr H') ∧ H' tr = some (.dT (tk t')) ∧ Tree rows cols s t' ∧ HangIs C rows cols t' H' p root h ∧ w0.1 ∈ rows ∧ w0.2 ∈ cols ∧ (∀ r ∈ rows, ∀ c ∈ cols, gap C h w0 ≤ gap C h (r, c)) ∧ H' q1 = some (.tup [.int (w0.1 : Nat), .int (w0.2 : Nat)]), ⟨_, t, p, root, h, q1, w0, rfl, rfl, hid_mono s02, s02 _ _ ht, Tr, hI.same s2, wr, wc, le, e1⟩, ?_⟩
    clear e2 q2 e1 le wr wc w0 q1 hI s1 s2 s02 H1 H2 h root p
    rintro n σ H' ⟨t', p, root, h, q1, w0, rfl, rfl, s3, ht', Tr', hI, wr, wc, le, e1⟩
    have lt3 := lt_hid s3 htH (fun _ => nofun) (fun _ => nofun)
    have hC3 := hC.lt lt3
    have ha3 : H' a = some (.ins T.c_Haul dx fs) := by
      have := s3 a _ ((hid_ne atr).trans ha)
      rwa [hid_ne atr] at this
    refine ⟨_, rfl, _, _, rfl, rfl, _, rfl, ite2 (fun c => ?_) (fun c => ?_)⟩
    · have neg : gap C h w0 < 0 := of_decide_eq_true c
      refine ⟨fun σ2 H2 => ∃ t2 p root h q1 w0, tsum t2 C < tsum t' C ∧ σ2 = [some (.ref a), some cv, some (.ref p), some (.int (gap C h w0)), some (.ref q1)] ∧ Same (hid tr H) (hid tr H2) ∧ H2 tr = some (.dT (tk t2)) ∧ Tree rows cols s t2 ∧ HangIs C rows cols t2 H2 p root h ∧ w0.1 ∈ rows ∧ w0.2 ∈ cols ∧ (∀ r ∈ rows, ∀ c ∈ cols, gap C h w0 ≤ gap C h (r, c)) ∧ H2 q1 = some (.tup [.int (w0.1 : Nat), .int (w0.2 : Nat)]), ?_, ?_⟩
      · rintro σ2 H2 ⟨t2, p2, root2, h2, q2, w2, less, rfl, rest⟩
        refine ⟨_, ?_, t2, p2, root2, h2, q2, w2, rfl, rfl, rest⟩
        have := tsum_nn (t := t2) (f := C) rest.2.2.1.pos fun p hp => by
          obtain ⟨h1, h2⟩ := rest.2.2.1.feas.1 p hp
          exact C0 _ (row_plc.mp h1) _ (col_plc.mp h2)
        omega
      · refine ⟨_, rfl, a, T.c_Haul, dx, fs, _, rfl, ha3, T.cl_Haul, T.n_Haul_tree, ft, _, rfl, _, rfl, tr, q1, p, C, rows, cols, s, t', root, h, w0, rfl, ht', e1, hI, Tr', nd, nr, nc, lr, lc, wr, wc, neg, fun H4 t4 s4 ht4 Tr4 less => ?_⟩
        have s34 := s3.trans s4
        have lt4 := lt_hid s34 htH (fun _ => nofun) (fun _ => nofun)
        have ha4 : H4 a = some (.ins T.c_Haul dx fs) := by
          have := s34 a _ ((hid_ne atr).trans ha)
          rwa [hid_ne atr] at this
        refine ⟨_, rfl, _, rfl, a, T.c_Haul, dx, fs, _, rfl, ha4, T.cl_Haul, T.n_Haul_tree, ft, cv, tr, M, N, C, rows, cols, s, t4, rfl, hC.lt lt4, ht4, Tr4, nd, nr, nc, rne, cne, lr, lc, rM, cN, fun H5 p5 root5 h5 s5 hI5 => ?_⟩
        refine ⟨_, rfl, _, rfl, cv, p5, M, N, C, rows, cols, t4, root5, h5, rfl, (hC.lt lt4).mono s5, hI5, rne, cne, lr, lc, nr, nc, rM, cN, fun H6 q6 q7 w6 s6 wr6 wc6 le6 e6 e7 => ?_⟩
        exact ⟨q6, _, rfl, .inl (.inl e6), rfl, _, _, rfl, _, _, rfl, rfl, t4, p5, root5, h5, q7, w6, less, rfl, s34.trans (hid_mono (s5.trans s6)), s6 _ _ (s5 _ _ ht4), Tr4, hI5.same s6, wr6, wc6, le6, e7⟩
    · have pos : 0 ≤ gap C h w0 := by
        have : ¬ gap C h w0 < 0 := fun z => c (decide_eq_true z)
        omega
      have ripe : Ripe C rows cols t' := by
        obtain ⟨_, _, _, _, _, _, h3, h4, _, h6, h7⟩ := hI
        exact ⟨root, h, h3, h4, h6, h7, fun r hr c hc => Int.le_trans pos (le r hr c hc)⟩
      have tl := Tr'.len
      have vl : (plc rows cols).length = rows.length + cols.length := by unfold plc; rw [List.length_append, List.length_map, List.length_map]
      refine ⟨_, rfl, a, T.c_Haul, dx, fs, _, rfl, ha3, T.cl_Haul, T.n_Haul_tree, ft, tr, rows, t', rfl, ht', Tr'.nd, by omega, nr, lr, fun w hw => ?_, fun r hr => row_way nr nc cne nd Tr'.feas hr, fun H4 mv nmv s4 hmv => ?_⟩
      · obtain ⟨p, hp, rfl⟩ := List.mem_map.mp hw
        exact row_plc.mp (Tr'.feas.1 p hp).1
      · have ha4 := s4 _ _ ha3
        have amv : a ≠ mv := fun z => by rw [← z, ha3] at nmv; cases nmv
        refine ⟨_, rfl, a, T.c_Haul, dx, fs, rfl, ha4, T.cl_Haul, T.n_Haul_moves, by omega, ?_⟩
        refine q _ mv t' (fun b o hb ne1 ne2 => ?_) upd_same ((upd_ne (fun z => atr z.symm)).trans (s4 _ _ ht')) Tr' ripe ?_ ((upd_ne (fun z => amv z.symm)).trans hmv)
        · rw [upd_ne ne1]
          refine s4 _ _ ?_
          have := s3 b _ ((hid_ne ne2).trans hb)
          rwa [hid_ne ne2] at this
        · cases hz : H mv with
          | none => rfl
          | some o =>
            by_cases c2 : mv = tr
            · rw [c2, ht'] at nmv
              cases nmv
            · have := s3 mv _ ((hid_ne c2).trans hz)
              rw [hid_ne c2, nmv] at this
              cases this
end

end Fb

namespace Fb
open PySem PySem.Spec PyProof.Rows L2
section
variable {P : Program} {w : World} {K : PySem.W.Frag} {mg : Str → Option Value} {base : Heap}
/-! ### a haul made -/
theorem isum_sum : ∀ l : List Int, isum l = l.sum
  | [] => rfl
  | x :: l => by rw [List.sum_cons, ← isum_sum l]; rfl
theorem vsum_filter {α : Type} (p : α → Bool) (f : α → Int) : ∀ {l : List α}, (∀ a ∈ l, p a = false → f a = 0) → vsum (l.filter p) f = vsum l f
  | [], _ => rfl
  | a :: l, h => by
    have ih := vsum_filter p f (l := l) fun b hb => h b (List.mem_cons_of_mem _ hb)
    rw [List.filter_cons, vsum_cons]
    cases c : p a with
    | true => rw [if_pos rfl, vsum_cons, ih]
    | false => rw [if_neg (by simp), ih, h a List.mem_cons_self c]; omega
theorem vsum_range (as : List Int) : vsum (List.range as.length) (fun i => as.getD i 0) = as.sum := by
  rw [← isum_sum]
  unfold vsum
  congr 1
  refine List.ext_getElem? fun i => ?_
  by_cases h : i < as.length
  · rw [List.getElem?_map, List.getElem?_range h, List.getElem?_eq_getElem h]
    show some (as.getD i 0) = _
    rw [List.getD_eq_getElem?_getD, List.getElem?_eq_getElem h]
    rfl
  · rw [List.getElem?_eq_none (by rw [List.length_map, List.length_range]; omega), List.getElem?_eq_none (by omega)]
theorem getD_nn {as : List Int} (nn : ∀ a ∈ as, 0 ≤ a) (i : Nat) : 0 ≤ as.getD i 0 := by
  rw [List.getD_eq_getElem?_getD]
  cases h : as[i]? with
  | none => exact Int.le_refl _
  | some a => exact nn a (List.mem_of_getElem? h)
/-- over all places as over the filled ones -/
theorem all_filled {as : List Int} (nn : ∀ a ∈ as, 0 ≤ a) (k : Int) (f : Nat → Int) : vsum (filled as) (fun i => as.getD i 0 * k * f i) = vsum (List.range as.length) fun i => as.getD i 0 * k * f i := by
  refine vsum_filter _ _ fun i hi h => ?_
  have h := of_decide_eq_false h
  have := getD_nn nn i
  have e : as.getD i 0 = 0 := by omega
  rw [e, Int.zero_mul, Int.zero_mul]
theorem filled_sum {as : List Int} (nn : ∀ a ∈ as, 0 ≤ a) (k : Int) : vsum (filled as) (fun i => as.getD i 0 * k) = as.sum * k := by
  have h := all_filled nn k fun _ => 1
  have e : ∀ l : List Nat, vsum l (fun i => as.getD i 0 * k * 1) = k * vsum l fun i => as.getD i 0 := fun l => by
    rw [← vsum_mul]
    exact vsum_congr fun i _ => by rw [Int.mul_one, Int.mul_comm]
  have e2 : vsum (filled as) (fun i => as.getD i 0 * k) = vsum (filled as) fun i => as.getD i 0 * k * 1 := vsum_congr fun i _ => by rw [Int.mul_one]
  rw [e2, h, e, vsum_range, Int.mul_comm]
theorem filled_ne {as : List Int} (nn : ∀ a ∈ as, 0 ≤ a) (s0 : 0 < as.sum) : filled as ≠ [] := fun z => by
  have := filled_sum nn 1
  rw [z, vsum_nil] at this
  omega
/-- the parts that both sums divide -/
def gOf (as bs : List Int) : Nat := as.sum.toNat * (bs.sum.toNat / Nat.gcd as.sum.toNat bs.sum.toNat)
theorem gOf_dvd (as bs : List Int) : as.sum.toNat ∣ gOf as bs ∧ bs.sum.toNat ∣ gOf as bs := by
  refine ⟨⟨_, rfl⟩, ?_⟩
  obtain ⟨u, hu⟩ := Nat.gcd_dvd_left as.sum.toNat bs.sum.toNat
  obtain ⟨v, hv⟩ := Nat.gcd_dvd_right as.sum.toNat bs.sum.toNat
  refine ⟨u, ?_⟩
  unfold gOf
  generalize Nat.gcd as.sum.toNat bs.sum.toNat = d at *
  by_cases d0 : d = 0
  · rw [hv, d0]; simp
  · rw [hv, Nat.mul_div_cancel_left _ (Nat.pos_of_ne_zero d0), hu]
    rw [Nat.mul_right_comm, Nat.mul_assoc]
theorem f_gt : ("grain" : Str) ≠ "tree" := by decide +kernel
theorem f_gm : ("grain" : Str) ≠ "moves" := by decide +kernel
theorem f_tm : ("tree" : Str) ≠ "moves" := by decide +kernel
/-- a haul -/
def IsHaul (CH : Addr) (H : Hp) (a : Addr) (g : Nat) (tr mv : Addr) : Prop := ∃ dx fs, H a = some (.ins CH dx fs) ∧ fs.lookup ("grain" : Str) = some (.int g) ∧ fs.lookup ("tree" : Str) = some (.ref tr) ∧ fs.lookup ("moves" : Str) = some (.ref mv) ∧
  fs.lookup ("plan" : Str) = none ∧ fs.lookup ("prices" : Str) = none ∧ fs.lookup ("paid" : Str) = none ∧ fs.lookup ("cheapen" : Str) = none ∧ fs.length < 900
def xOf (as : List Int) (g : Nat) (i : Nat) : Int := as.getD i 0 * ((g : Int) / as.sum)
def spHaul (CH : Addr) : Sp := fun vs H Q _ => ∃ (a dx d1 d2 : Addr) (cv : V) (C : Wy → Int) (as bs : List Int), vs = [.ref a, cv, .ref d1, .ref d2] ∧ H a = some (.ins CH dx []) ∧ Costs H cv as.length bs.length C ∧ H d1 = some (.lst (as.map V.int)) ∧ H d2 = some (.lst (bs.map V.int)) ∧
  as.length ≤ 30 ∧ bs.length ≤ 30 ∧ (∀ x ∈ as, 0 ≤ x) ∧ (∀ x ∈ bs, 0 ≤ x) ∧ 0 < as.sum ∧ 0 < bs.sum ∧ as.sum < 2 ^ 8000 ∧ bs.sum < 2 ^ 8000 ∧ (∀ r, r < as.length → ∀ c, c < bs.length → 0 ≤ C (r, c)) ∧
  ∀ H' tr mv t last, (∀ b o, H b = some o → b ≠ a → H' b = some o) → IsHaul CH H' a (gOf as bs) tr mv → H' tr = some (.dT (tk t)) → H tr = none → H' mv = some (.dT (tk (rnd (filled as).length t))) → H mv = none → last ∈ filled bs →
    Nondeg (plc (filled as) (filled bs)) (sFirst (filled as) (xOf as (gOf as bs)) (xOf bs (gOf as bs)) last) →
    Tree (filled as) (filled bs) (sFirst (filled as) (xOf as (gOf as bs)) (xOf bs (gOf as bs)) last) t → Ripe C (filled as) (filled bs) t → Q .non H'
theorem sum_geA {as : List Int} (nn : ∀ a ∈ as, 0 ≤ a) : ∀ x ∈ as, x ≤ as.sum := by
  induction as with
  | nil => exact fun x hx => by cases hx
  | cons a as ih =>
    have n2 : ∀ x ∈ as, 0 ≤ x := fun x hx => nn x (List.mem_cons_of_mem _ hx)
    have a0 := nn a List.mem_cons_self
    have s0 : 0 ≤ as.sum := by
      rw [← isum_sum, show isum as = vsum as id by unfold vsum; rw [List.map_id]]
      exact vsum_pos n2
    intro x hx
    rw [List.sum_cons]
    rcases List.mem_cons.mp hx with rfl | h
    · omega
    · have := ih n2 x h
      omega
set_option maxHeartbeats 800000 in
theorem ok_m_Haul_init (T : Txt K mg) : FnOk P w K mg base CX0 4 T.f_m_Haul_init T.d_m_Haul_init ["self", "costs", "first", "second"] (spHaul T.c_Haul) := by
  refine T.F_m_Haul_init.ok sc_m_Haul_init (fun vs H Q E h => ?_) (fun cdv A outer s0 H vs Q E hr h => ?_)
  · obtain ⟨a, dx, d1, d2, cv, C, as, bs, rfl, _⟩ := h
    rfl
  · obtain ⟨a, dx, d1, d2, cv, C, as, bs, rfl, ha, hC, h1, h2, l1, l2, nn1, nn2, p1, p2, b1, b2, C0, q⟩ := h
    refine ⟨_, (pss_cons (ps_fld (pv 0) (pe_call (ok_p_common_multiple T) (hr.mono (by decide)) (by rfl) T.g_p_common_multiple T.F_p_common_multiple.kp T.b_p_common_multiple .nil pass0 (pa_cons (pe_callB (cr_sum rfl) (by rfl) T.z_sum (by decide +kernel) (pa_cons (pv 2) pa_nil)) (pa_cons (pe_callB (cr_sum rfl) (by rfl) T.z_sum (by decide +kernel) (pa_cons (pv 3) pa_nil)) pa_nil))) rfl)
 (pss_cons (ps_fld (pv 0) (pe_call (ok_p_first_tree T) (hr.mono (by decide)) (by rfl) T.g_p_first_tree T.F_p_first_tree.kp T.b_p_first_tree .nil pass0 (pa_cons (pv 1) (pa_cons (pe_call (ok_p_in_parts T) (hr.mono (by decide)) (by rfl) T.g_p_in_parts T.F_p_in_parts.kp T.b_p_in_parts .nil pass0 (pa_cons (pv 2) (pa_cons (pe_fld (pv 0) rfl) pa_nil))) (pa_cons (pe_call (ok_p_in_parts T) (hr.mono (by decide)) (by rfl) T.g_p_in_parts T.F_p_in_parts.kp T.b_p_in_parts .nil pass0 (pa_cons (pv 3) (pa_cons (pe_fld (pv 0) rfl) pa_nil))) pa_nil)))) rfl)
 (pss_cons (ps_fld (pv 0) pe_dnewK rfl)
 (pss_one (ps_expr (pe_meth (pv 0) T.cl_Haul T.h_m_Haul_cheapen (ok_m_Haul_cheapen T) (hr.mono (by decide)) T.b_m_Haul_cheapen .nil pass0 (pa_cons (pv 1) pa_nil))))))), ?_⟩
    have e1 : as.sum = (as.sum.toNat : Int) := (Int.toNat_of_nonneg (Int.le_of_lt p1)).symm
    have e2 : bs.sum = (bs.sum.toNat : Int) := (Int.toNat_of_nonneg (Int.le_of_lt p2)).symm
    have lt1 : as.sum.toNat < 2 ^ 8000 := by omega
    have lt2 : bs.sum.toNat < 2 ^ 8000 := by omega
    refine ⟨_, rfl, d1, as, rfl, SqL.of h1, _, rfl, d2, bs, rfl, SqL.of h2, as.sum.toNat, bs.sum.toNat, by rw [show V.int as.sum = V.int (as.sum.toNat : Nat) from congrArg V.int e1, show V.int bs.sum = V.int (bs.sum.toNat : Nat) from congrArg V.int e2]; rfl, by omega, by omega, Nat.lt_trans lt1 (Nat.pow_lt_pow_right (by decide) (by decide)), Nat.lt_trans lt2 (Nat.pow_lt_pow_right (by decide) (by decide)), ?_⟩
    have gd := gOf_dvd as bs
    have g0 : 0 < gOf as bs := by
      refine Nat.mul_pos (by omega) (Nat.div_pos (Nat.le_of_dvd (by omega) (Nat.gcd_dvd_right _ _)) (Nat.gcd_pos_of_pos_left _ (by omega)))
    have gb : gOf as bs < 2 ^ 17000 := by
      have h1 : gOf as bs ≤ as.sum.toNat * bs.sum.toNat := Nat.mul_le_mul_left _ (Nat.div_le_self _ _)
      have h2 : as.sum.toNat * bs.sum.toNat < 2 ^ 8000 * 2 ^ 8000 := Nat.mul_lt_mul'' lt1 lt2
      have h3 : (2 : Nat) ^ 8000 * 2 ^ 8000 < 2 ^ 17000 := by rw [← Nat.pow_add]; exact Nat.pow_lt_pow_right (by decide) (by decide)
      omega
    have gt : (List.lookup ("grain" : Str) (putF "grain" (.int (gOf as bs : Nat)) ([] : List (Str × V)))) = some (V.int (gOf as bs : Nat)) := by rw [lookup_putF, if_pos rfl]
    refine ⟨_, rfl, a, T.c_Haul, dx, [], rfl, ha, T.cl_Haul, T.n_Haul_grain, (by show 0 < 1000; decide), ?_⟩
    have k1 : ∀ b o, H b = some o → b ≠ a → (upd H a (.ins T.c_Haul dx (putF "grain" (.int (gOf as bs : Nat)) []))) b = some o := fun b o e ne => (upd_ne ne).trans e
    have a1 := @upd_same H a (.ins T.c_Haul dx (putF "grain" (.int (gOf as bs : Nat)) []))
    generalize eH1 : upd H a (.ins T.c_Haul dx (putF "grain" (.int (gOf as bs : Nat)) [])) = H1 at k1 a1
    have n1 : ∀ b, b ≠ a → H1 b = none → H b = none := fun b ne e => by rw [← eH1, upd_ne ne] at e; exact e
    have eH1' : upd H a (.ins T.c_Haul dx (putF "grain" (.int ((as.sum.toNat * (bs.sum.toNat / Nat.gcd as.sum.toNat bs.sum.toNat) : Nat) : Int)) [])) = H1 := eH1
    rw [eH1']
    have lt01 : LT H H1 := fun b xs => ⟨fun h => k1 _ _ h fun z => by rw [z, ha] at h; (cases h), fun h => k1 _ _ h fun z => by rw [z, ha] at h; (cases h)⟩
    have gi : 0 < (gOf as bs : Int) := by omega
    have d1a : ∀ x ∈ as, 0 ≤ x ∧ x.natAbs < 2 ^ 8001 := fun x hx => ⟨nn1 x hx, by
      have h1 := sum_geA nn1 x hx
      have h2 := nn1 x hx
      have h3 : as.sum.toNat < 2 ^ 8001 := Nat.lt_trans lt1 (Nat.pow_lt_pow_right (by decide) (by decide))
      omega⟩
    have d2a : ∀ x ∈ bs, 0 ≤ x ∧ x.natAbs < 2 ^ 8001 := fun x hx => ⟨nn2 x hx, by
      have h1 := sum_geA nn2 x hx
      have h2 := nn2 x hx
      have h3 : bs.sum.toNat < 2 ^ 8001 := Nat.lt_trans lt2 (Nat.pow_lt_pow_right (by decide) (by decide))
      omega⟩
    have sb1 : as.sum.natAbs < 2 ^ 8500 := by
      have h3 : as.sum.toNat < 2 ^ 8500 := Nat.lt_trans lt1 (Nat.pow_lt_pow_right (by decide) (by decide))
      omega
    have sb2 : bs.sum.natAbs < 2 ^ 8500 := by
      have h3 : bs.sum.toNat < 2 ^ 8500 := Nat.lt_trans lt2 (Nat.pow_lt_pow_right (by decide) (by decide))
      omega
    refine ⟨_, rfl, _, rfl, _, rfl, a, T.c_Haul, dx, _, _, rfl, a1, T.cl_Haul, T.n_Haul_grain, gt, d1, as, gOf as bs, rfl, (lt01 _ _).1 h1, by omega, d1a, p1, sb1, gb, fun H2 x1 nx1 s2 hx1 => ?_⟩
    refine ⟨_, rfl, _, rfl, a, T.c_Haul, dx, _, _, rfl, s2 _ _ a1, T.cl_Haul, T.n_Haul_grain, gt, d2, bs, gOf as bs, rfl, s2 _ _ ((lt01 _ _).1 h2), by omega, d2a, p2, sb2, gb, fun H3 x2 nx2 s3 hx2 => ?_⟩
    have part : ∀ {zs : List Int}, 0 < zs.sum → zs.sum.toNat ∣ gOf as bs → zs.sum * ((gOf as bs : Int) / zs.sum) = gOf as bs ∧ 0 < (gOf as bs : Int) / zs.sum := fun {zs} p d => by
      have d' : zs.sum ∣ (gOf as bs : Int) := by
        have := Int.ofNat_dvd.mpr d
        rwa [Int.toNat_of_nonneg (Int.le_of_lt p)] at this
      have e := Int.mul_ediv_cancel' d'
      refine ⟨e, ?_⟩
      have h0 : 0 ≤ (gOf as bs : Int) / zs.sum := Int.ediv_nonneg (Int.le_of_lt gi) (Int.le_of_lt p)
      have h1 : (gOf as bs : Int) / zs.sum ≠ 0 := fun z => by rw [z, Int.mul_zero] at e; omega
      omega
    obtain ⟨f1, q1⟩ := part p1 gd.1
    obtain ⟨f2, q2⟩ := part p2 gd.2
    have pos : ∀ v ∈ plc (filled as) (filled bs), 0 < sup (xOf as (gOf as bs)) (xOf bs (gOf as bs)) v := fun v hv => by
      cases v with
      | row r => exact Int.mul_pos (fld_lt (row_plc.mp hv)).2 q1
      | col c => exact Int.mul_pos (fld_lt (col_plc.mp hv)).2 q2
    have tot : vsum (plc (filled as) (filled bs)) (fun v => v.ep * sup (xOf as (gOf as bs)) (xOf bs (gOf as bs)) v) = 0 := by
      rw [vsum_plc]
      have h1 : vsum (filled as) (fun r => Nd.ep (.row r) * sup (xOf as (gOf as bs)) (xOf bs (gOf as bs)) (.row r)) = gOf as bs := by
        refine Eq.trans (vsum_congr fun r _ => ?_) ((filled_sum nn1 _).trans f1)
        exact Int.one_mul _
      have h2 : vsum (filled bs) (fun r => Nd.ep (.col r) * sup (xOf as (gOf as bs)) (xOf bs (gOf as bs)) (.col r)) = -1 * (gOf as bs : Int) := by
        rw [← f2, ← filled_sum nn2, ← vsum_mul]
        exact vsum_congr fun r _ => rfl
      rw [h1, h2]
      omega
    have fl1 := fld_len as as.length
    have fl2 := fld_len bs bs.length
    have fn1 := fld_nodup as as.length
    have fn2 := fld_nodup bs bs.length
    have ne1 := filled_ne nn1 p1
    have ne2 := filled_ne nn2 p2
    have rM : ∀ r ∈ filled as, r < as.length := fun r hr => (fld_lt hr).1
    have cN : ∀ c ∈ filled bs, c < bs.length := fun c hc => (fld_lt hc).1
    refine ⟨cv, x1, x2, as.length, bs.length, C, filled as, filled bs, xOf as (gOf as bs), xOf bs (gOf as bs), rfl, ((hC.lt lt01).mono s2).mono s3, s3 _ _ hx1, hx2, fn1, fn2, ne1, ne2, Nat.le_trans fl1 l1, Nat.le_trans fl2 l2, rM, cN, pos, tot, fun H4 tr t last hl ntr s4 htr Tr => ?_⟩
    have a4 := s4 _ _ (s3 _ _ (s2 _ _ a1))
    have atr : a ≠ tr := fun z => by rw [← z, s3 _ _ (s2 _ _ a1)] at ntr; cases ntr
    have nd : Nondeg (plc (filled as) (filled bs)) (sFirst (filled as) (xOf as (gOf as bs)) (xOf bs (gOf as bs)) last) := nd_first fn1 fn2 hl pos tot
    have hC4 := (((hC.lt lt01).mono s2).mono s3).mono s4
    have k4 : ∀ b o, H b = some o → b ≠ a → H4 b = some o := fun b o e ne => s4 _ _ (s3 _ _ (s2 _ _ (k1 _ _ e ne)))
    have ntr1 : H tr = none := by
      cases hz : H tr with
      | none => rfl
      | some o =>
        rw [s3 _ _ (s2 _ _ (k1 _ _ hz fun z => atr z.symm))] at ntr
        cases ntr
    refine ⟨_, rfl, a, T.c_Haul, dx, _, rfl, a4, T.cl_Haul, T.n_Haul_tree, (by show 1 < 1000; decide), ?_⟩
    have c4 : LT H4 (upd H4 a (.ins T.c_Haul dx (putF "tree" (.ref tr) (putF "grain" (.int (gOf as bs : Nat)) [])))) := .put a4 (fun _ => nofun) (fun _ => nofun)
    have k5 : ∀ b o, H b = some o → b ≠ a → (upd H4 a (.ins T.c_Haul dx (putF "tree" (.ref tr) (putF "grain" (.int (gOf as bs : Nat)) [])))) b = some o := fun b o e ne => (upd_ne ne).trans (k4 _ _ e ne)
    have a5 := @upd_same H4 a (.ins T.c_Haul dx (putF "tree" (.ref tr) (putF "grain" (.int (gOf as bs : Nat)) [])))
    have t5 := (upd_ne (o := .ins T.c_Haul dx (putF "tree" (.ref tr) (putF "grain" (.int (gOf as bs : Nat)) []))) (H := H4) fun z : tr = a => atr z.symm).trans htr
    generalize eH5 : upd H4 a (.ins T.c_Haul dx (putF "tree" (.ref tr) (putF "grain" (.int (gOf as bs : Nat)) []))) = H5 at *
    intro m0 nm0
    have x6 := same_upd (o := .dK []) nm0
    have am : a ≠ m0 := fun z => by rw [← z, a5] at nm0; cases nm0
    have tm : tr ≠ m0 := fun z => by rw [← z, t5] at nm0; cases nm0
    refine ⟨_, rfl, a, T.c_Haul, dx, _, rfl, x6 _ _ a5, T.cl_Haul, T.n_Haul_moves, (by show 2 < 1000; decide), ?_⟩
    have hC5 := ((hC4.lt c4).mono x6)
    have a6 := x6 _ _ a5
    have k6 : ∀ b o, H b = some o → b ≠ a → (upd H5 m0 (.dK [])) b = some o := fun b o e ne => x6 _ _ (k5 _ _ e ne)
    have t6 := x6 _ _ t5
    generalize upd H5 m0 (.dK []) = H6 at *
    have c7 : LT H6 (upd H6 a (.ins T.c_Haul dx (putF "moves" (.ref m0) (putF "tree" (.ref tr) (putF "grain" (.int (gOf as bs : Nat)) []))))) := .put a6 (fun _ => nofun) (fun _ => nofun)
    have k7 : ∀ b o, H b = some o → b ≠ a → (upd H6 a (.ins T.c_Haul dx (putF "moves" (.ref m0) (putF "tree" (.ref tr) (putF "grain" (.int (gOf as bs : Nat)) []))))) b = some o := fun b o e ne => (upd_ne ne).trans (k6 _ _ e ne)
    have a7 := @upd_same H6 a (.ins T.c_Haul dx (putF "moves" (.ref m0) (putF "tree" (.ref tr) (putF "grain" (.int (gOf as bs : Nat)) []))))
    have t7 := (upd_ne (o := .ins T.c_Haul dx (putF "moves" (.ref m0) (putF "tree" (.ref tr) (putF "grain" (.int (gOf as bs : Nat)) [])))) (H := H6) fun z : tr = a => atr z.symm).trans t6
    have hC7 := hC5.lt c7
    generalize upd H6 a (.ins T.c_Haul dx (putF "moves" (.ref m0) (putF "tree" (.ref tr) (putF "grain" (.int (gOf as bs : Nat)) [])))) = H7 at *
    have lk : ∀ (mv : Addr) (k : Str), (putF "moves" (.ref mv) (putF "moves" (.ref m0) (putF "tree" (.ref tr) (putF "grain" (.int (gOf as bs : Nat)) ([] : List (Str × V)))))).lookup k = if k = "moves" then some (.ref mv) else if k = "tree" then some (.ref tr) else if k = "grain" then some (.int (gOf as bs : Nat)) else none := fun mv k => by
      rw [lookup_putF, lookup_putF, lookup_putF, lookup_putF]
      split
      · rfl
      · rfl
    refine ⟨_, rfl, a, dx, _, rfl, a7, ?_, _, rfl, a, dx, tr, _, cv, as.length, bs.length, C, filled as, filled bs, sFirst (filled as) (xOf as (gOf as bs)) (xOf bs (gOf as bs)) last, t, rfl, hC7, a7, ?_, (by show 3 < 900; decide), t7, Tr, nd, fn1, fn2, ne1, ne2, Nat.le_trans fl1 l1, Nat.le_trans fl2 l2, rM, cN, fun r hr c hc => C0 _ (rM r hr) _ (cN c hc), fun H8 mv t' k8 a8 t8 Tr8 ripe nmv mv8 => ?_⟩
    · rw [lookup_putF, lookup_putF, lookup_putF, if_neg (by decide +kernel), if_neg (by decide +kernel), if_neg (by decide +kernel)]
      rfl
    · rw [lookup_putF, lookup_putF, if_neg f_tm, if_pos rfl]
    · refine q H8 tr mv t' last (fun b o hb ne => ?_) ⟨dx, _, a8, ?_, ?_, ?_, ?_, ?_, ?_, ?_, (by show 3 < 900; decide)⟩ t8 ntr1 mv8 ?_ hl nd Tr8 ripe
      · refine k8 _ _ (k7 _ _ hb ne) ne fun z => ?_
        rw [z, ntr1] at hb
        cases hb
      · rw [lk, if_neg f_gm, if_neg f_gt, if_pos rfl]
      · rw [lk, if_neg f_tm, if_pos rfl]
      · rw [lk, if_pos rfl]
      iterate 4
        · rw [lk, if_neg (by decide +kernel), if_neg (by decide +kernel), if_neg (by decide +kernel)]
      · cases hz : H mv with
        | none => rfl
        | some o =>
          by_cases c : mv = a
          · rw [c, a7] at nmv
            cases nmv
          · rw [k7 _ _ hz c] at nmv
            cases nmv
end

end Fb

namespace Fb
open PySem PySem.Spec PyProof.Rows L2
section
/-! ### what is carried, and what it costs -/
theorem vsum_swap {α β : Type} (V : List α) (f : α → β → Int) : ∀ W : List β, vsum V (fun v => vsum W fun u => f v u) = vsum W fun u => vsum V fun v => f v u
  | [] => vsum_zero fun _ _ => rfl
  | u :: W => by
    have ih := vsum_swap V f W
    rw [vsum_cons, ← ih, ← vsum_add]
    rfl
theorem vsum_map {α β : Type} (g : α → β) (f : β → Int) (V : List α) : vsum (V.map g) f = vsum V fun v => f (g v) := by
  unfold vsum
  rw [List.map_map]
  rfl
theorem valOf_out {t : List (Wy × Int)} {w : Wy} (h : w ∉ t.map (·.1)) : valOf t w = 0 := by
  unfold valOf
  cases e : t.find? fun p => decide (p.1 = w) with
  | none => rfl
  | some p =>
    have h0 := List.find?_some e
    have h1 : p.1 = w := of_decide_eq_true h0
    exact absurd (h1 ▸ List.mem_map_of_mem (List.mem_of_find?_eq_some e)) h
theorem valOf_sum {w : Wy} : ∀ {t : List (Wy × Int)}, (t.map (·.1)).Nodup → valOf t w = vsum t fun p => if p.1 = w then p.2 else 0
  | [], _ => rfl
  | p :: t, nd => by
    obtain ⟨n1, n2⟩ := List.nodup_cons.mp nd
    have ih := valOf_sum (w := w) n2
    rw [vsum_cons]
    by_cases c : p.1 = w
    · have e : valOf (p :: t) w = p.2 := valOf_in nd (by rw [← c]; exact List.mem_cons_self)
      have z : vsum t (fun p => if p.1 = w then p.2 else 0) = 0 := by
        rw [← ih]
        exact valOf_out (by rw [← c]; exact n1)
      rw [e, if_pos c, z]
      omega
    · have e : valOf (p :: t) w = valOf t w := by
        unfold valOf
        rw [List.find?_cons_of_neg (by rw [decide_eq_true_iff]; exact c)]
      rw [e, if_neg c, ih]
      omega
/-- in a row, in a column, in all -/
theorem row_total {t : List (Wy × Int)} (nd : (t.map (·.1)).Nodup) {N : Nat} (hN : ∀ p ∈ t, p.1.2 < N) (r : Nat) : vsum (List.range N) (fun c => valOf t (r, c)) = bal t (.row r) := by
  rw [vsum_congr (g := fun c => vsum t fun p => if p.1 = (r, c) then p.2 else 0) fun c _ => valOf_sum nd, vsum_swap]
  refine vsum_congr fun p hp => ?_
  have e := vsum_one (List.nodup_range (n := N)) (a := p.1.2) fun c => if p.1.1 = r then p.2 else 0
  rw [if_pos (List.mem_range.mpr (hN p hp))] at e
  refine ((vsum_congr fun c _ => ?_).trans e).trans ?_
  · by_cases h1 : c = p.1.2
    · rw [if_pos h1]
      by_cases h2 : p.1.1 = r
      · rw [if_pos h2, if_pos (by rw [h1, ← h2])]
      · rw [if_neg h2, if_neg fun z => h2 (congrArg Prod.fst z)]
    · rw [if_neg h1, if_neg fun z => h1 (congrArg Prod.snd z).symm]
  · show _ = if decide (r = p.1.1) = true then p.2 else 0
    by_cases h2 : p.1.1 = r
    · rw [if_pos h2, if_pos (decide_eq_true h2.symm)]
    · rw [if_neg h2, if_neg fun z => h2 (of_decide_eq_true z).symm]
theorem col_total {t : List (Wy × Int)} (nd : (t.map (·.1)).Nodup) {M : Nat} (hM : ∀ p ∈ t, p.1.1 < M) (c : Nat) : vsum (List.range M) (fun r => valOf t (r, c)) = bal t (.col c) := by
  rw [vsum_congr (g := fun r => vsum t fun p => if p.1 = (r, c) then p.2 else 0) fun r _ => valOf_sum nd, vsum_swap]
  refine vsum_congr fun p hp => ?_
  have e := vsum_one (List.nodup_range (n := M)) (a := p.1.1) fun r => if p.1.2 = c then p.2 else 0
  rw [if_pos (List.mem_range.mpr (hM p hp))] at e
  refine ((vsum_congr fun r _ => ?_).trans e).trans ?_
  · by_cases h1 : r = p.1.1
    · rw [if_pos h1]
      by_cases h2 : p.1.2 = c
      · rw [if_pos h2, if_pos (by rw [h1, ← h2])]
      · rw [if_neg h2, if_neg fun z => h2 (congrArg Prod.snd z)]
    · rw [if_neg h1, if_neg fun z => h1 (congrArg Prod.fst z).symm]
  · show _ = if decide (c = p.1.2) = true then p.2 else 0
    by_cases h2 : p.1.2 = c
    · rw [if_pos h2, if_pos (decide_eq_true h2.symm)]
    · rw [if_neg h2, if_neg fun z => h2 (of_decide_eq_true z).symm]
theorem all_total {t : List (Wy × Int)} (nd : (t.map (·.1)).Nodup) {M N : Nat} (hM : ∀ p ∈ t, p.1.1 < M) (hN : ∀ p ∈ t, p.1.2 < N) (C : Wy → Int) : vsum (List.range M) (fun r => vsum (List.range N) fun c => C (r, c) * valOf t (r, c)) = tsum t C := by
  have e1 : ∀ r c, C (r, c) * valOf t (r, c) = vsum t fun p => if p.1 = (r, c) then C p.1 * p.2 else 0 := fun r c => by
    rw [valOf_sum nd, ← vsum_mul]
    refine vsum_congr fun p _ => ?_
    by_cases h : p.1 = (r, c)
    · rw [if_pos h, if_pos h, h]
    · rw [if_neg h, if_neg h, Int.mul_zero]
  have e2 : ∀ r, vsum (List.range N) (fun c => C (r, c) * valOf t (r, c)) = vsum t fun p => if p.1.1 = r then C p.1 * p.2 else 0 := fun r => by
    rw [vsum_congr fun c _ => e1 r c, vsum_swap]
    refine vsum_congr fun p hp => ?_
    have e := vsum_one (List.nodup_range (n := N)) (a := p.1.2) fun c => if p.1.1 = r then C p.1 * p.2 else 0
    rw [if_pos (List.mem_range.mpr (hN p hp))] at e
    refine (vsum_congr fun c _ => ?_).trans e
    by_cases h1 : c = p.1.2
    · rw [if_pos h1]
      by_cases h2 : p.1.1 = r
      · rw [if_pos h2, if_pos (by rw [h1, ← h2])]
      · rw [if_neg h2, if_neg fun z => h2 (congrArg Prod.fst z)]
    · rw [if_neg h1, if_neg fun z => h1 (congrArg Prod.snd z).symm]
  rw [vsum_congr fun r _ => e2 r, vsum_swap]
  refine vsum_congr fun p hp => ?_
  have e := vsum_one (List.nodup_range (n := M)) (a := p.1.1) fun r => C p.1 * p.2
  rw [if_pos (List.mem_range.mpr (hM p hp))] at e
  refine (vsum_congr fun r _ => ?_).trans e
  by_cases h1 : r = p.1.1
  · rw [if_pos h1, if_pos h1.symm]
  · rw [if_neg h1, if_neg fun z => h1 z.symm]
section
variable {rows cols : List Nat} {x y : Nat → Int} {last : Nat} {t : List (Wy × Int)} {root : Nat} {h : Hg} {C : Wy → Int}
theorem Small.sub {m : Int} {q : Nd → Int} {V W : List Nd} (h : Small m q V) (s : ∀ v ∈ W, v ∈ V) : Small m q W := fun D nD hD => h D nD fun v hv => s v (hD v hv)
theorem by_hung (pm : (t.map (·.1)).Perm (wys h)) (F : Wy → Int) : vsum h (fun e => F e.2) = vsum t fun p => F p.1 := by
  have e1 : vsum h (fun e => F e.2) = vsum (wys h) F := (vsum_map (·.2) F h).symm
  rw [e1, ← vsum_perm pm, vsum_map]
theorem rnd_bal (nr : rows.Nodup) (nc : cols.Nodup) (T : Tree rows cols (sFirst rows x y last) t) (ht : HT root h) (pm : (t.map (·.1)).Perm (wys h)) (jr : ∀ r, Nd.row r ∈ nds root h ↔ r ∈ rows) (jc : ∀ c, Nd.col c ∈ nds root h ↔ c ∈ cols) : ∀ v ∈ plc rows cols, bal (rnd rows.length t) v = sup x y v := by
  have node : ∀ v, v ∈ nds root h ↔ v ∈ plc rows cols := fun v => by
    cases v with
    | row r => rw [jr, row_plc]
    | col c => rw [jc, col_plc]
  intro v hv
  have val : ∀ p ∈ t, valOf t p.1 = p.2 := fun p hp => valOf_in T.nd hp
  have k := round_ok (u := unitZ rows) (m := rows.length) (by unfold unitZ; omega) (valOf t) ht (sup x y) (bit rows.length last) (fun v hv => by
    rw [by_hung pm fun w => if v.on w = true then valOf t w else 0]
    refine Eq.trans (vsum_congr fun p hp => ?_) (T.feas.2 v ((node v).mp hv))
    rw [val p hp]) (bit_small.sub fun v hv => (node v).mp hv) v ((node v).mpr hv)
  rw [by_hung pm fun w => if v.on w = true then (valOf t w + rows.length) / unitZ rows else 0] at k
  rw [← k]
  unfold bal rnd
  rw [vsum_filter]
  · unfold rndA
    rw [vsum_map]
    refine vsum_congr fun p hp => ?_
    rw [val p hp]
    rfl
  · intro p hp z
    unfold rndA at hp
    obtain ⟨o, ho, rfl⟩ := List.mem_map.mp hp
    have z := of_decide_eq_false z
    have o0 := T.pos o ho
    have : 0 ≤ (o.2 + rows.length) / (2 * (rows.length : Int) + 1) := Int.ediv_nonneg (by omega) (by omega)
    dsimp only at z ⊢
    split
    · omega
    · rfl
theorem rnd_ends (T : Tree rows cols (sFirst rows x y last) t) : Ends (plc rows cols) (rnd rows.length t) := fun p hp => by
  obtain ⟨o, ho, rfl⟩ := List.mem_map.mp (List.mem_filter.mp hp).1
  exact T.feas.1 o ho
theorem rnd_keys (m : Nat) (t : List (Wy × Int)) : ∀ p ∈ rnd m t, p.1 ∈ t.map (·.1) := fun p hp => by
  obtain ⟨o, ho, rfl⟩ := List.mem_map.mp (List.mem_filter.mp hp).1
  exact List.mem_map.mpr ⟨o, ho, rfl⟩
theorem rnd_nodup (m : Nat) (n : (t.map (·.1)).Nodup) : ((rnd m t).map (·.1)).Nodup := by
  unfold rnd
  refine List.Sublist.nodup (List.filter_sublist.map _) ?_
  unfold rndA
  rw [List.map_map]
  exact n
theorem rnd_cost (nr : rows.Nodup) (nc : cols.Nodup) (T : Tree rows cols (sFirst rows x y last) t) (ht : HT root h) (pm : (t.map (·.1)).Perm (wys h)) (jr : ∀ r, Nd.row r ∈ nds root h ↔ r ∈ rows) (jc : ∀ c, Nd.col c ∈ nds root h ↔ c ∈ cols) :
    tsum (rnd rows.length t) C = vsum rows (fun r => x r * pr C h (.row r)) - vsum cols fun c => y c * pr C h (.col c) := by
  have b := rnd_bal nr nc T ht pm jr jc
  have k := by_ways (plc_nodup nr nc) (fun v => v.ep * pr C h v) (rnd_ends T)
  have e1 : tsum (rnd rows.length t) (fun w => Nd.ep (.row w.1) * pr C h (.row w.1) + Nd.ep (.col w.2) * pr C h (.col w.2)) = tsum (rnd rows.length t) C := by
    refine vsum_congr fun p hp => ?_
    have tg := ht.tight (cost := C) _ (pm.mem_iff.mp (rnd_keys _ _ p hp))
    show (1 * pr C h (.row p.1.1) + -1 * pr C h (.col p.1.2)) * p.2 = C p.1 * p.2
    rw [← tg]
    congr 1
    omega
  rw [← e1, ← k, vsum_plc]
  have r1 : vsum rows (fun r => Nd.ep (.row r) * pr C h (.row r) * bal (rnd rows.length t) (.row r)) = vsum rows fun r => x r * pr C h (.row r) := vsum_congr fun r hr => by
    rw [b _ (row_plc.mpr hr)]
    show 1 * pr C h (.row r) * x r = _
    rw [Int.one_mul, Int.mul_comm]
  have r2 : vsum cols (fun c => Nd.ep (.col c) * pr C h (.col c) * bal (rnd rows.length t) (.col c)) = -1 * vsum cols fun c => y c * pr C h (.col c) := by
    rw [← vsum_mul]
    refine vsum_congr fun c hc => ?_
    rw [b _ (col_plc.mpr hc)]
    show -1 * pr C h (.col c) * y c = -1 * (y c * pr C h (.col c))
    rw [Int.mul_assoc, Int.mul_comm (pr C h (.col c))]
  rw [r1, r2]
  omega
/-- ripe, however it hangs -/
theorem Ripe.any {s : Nd → Int} (R : Ripe C rows cols t) (nr : rows.Nodup) (nc : cols.Nodup) (nd : Nondeg (plc rows cols) s) (f : Feas (plc rows cols) s t) (ht : HT root h) (pm : (t.map (·.1)).Perm (wys h)) {r c : Nat} (hr : r ∈ rows) (hc : c ∈ cols) : 0 ≤ gap C h (r, c) := by
  obtain ⟨root', h', ht', pm', _, _, g⟩ := R
  have cn := conn_of (plc_nodup nr nc) nd f (fun v => decide (pr C h v - pr C h' v = pr C h (.row r) - pr C h' (.row r))) ⟨.row r, row_plc.mpr hr, decide_eq_true rfl⟩ (fun w hw => by
    have h1 := ht.tight (cost := C) w (pm.mem_iff.mp hw)
    have h2 := ht'.tight (cost := C) w (pm'.mem_iff.mp hw)
    congr 1
    exact propext ⟨fun _ => by omega, fun _ => by omega⟩) (.col c) (col_plc.mpr hc)
  have e := of_decide_eq_true cn
  have := g r hr c hc
  unfold gap at this ⊢
  dsimp only at this ⊢
  omega
/-- the prices of filled places are the tree's -/
theorem AllP.same {M N : Nat} {hr : List Nat} {P Q : Nat → Int} {s : Nd → Int} (A : AllP C M N hr (fun r => pr C h (.row r)) P Q) (ir : ∀ r, r ∈ hr ↔ r ∈ rows) (rM : ∀ r ∈ rows, r < M) (cN : ∀ c ∈ cols, c < N) (nr : rows.Nodup) (nc : cols.Nodup) (rne : rows ≠ []) (cne : cols ≠ []) (nd : Nondeg (plc rows cols) s) (f : Feas (plc rows cols) s t)
    (cw : ∀ c ∈ cols, ∃ w : Wy, w ∈ t.map (·.1) ∧ w.2 = c) (ht : HT root h) (pm : (t.map (·.1)).Perm (wys h)) (g : ∀ r ∈ rows, ∀ c ∈ cols, 0 ≤ gap C h (r, c)) : (∀ r ∈ rows, P r = pr C h (.row r)) ∧ ∀ c ∈ cols, Q c = pr C h (.col c) := by
  have en : ∀ w : Wy, w ∈ t.map (·.1) → w.1 ∈ rows ∧ w.2 ∈ cols := fun w hw => by
    obtain ⟨p, hp, rfl⟩ := List.mem_map.mp hw
    exact ⟨row_plc.mp (f.1 p hp).1, col_plc.mp (f.1 p hp).2⟩
  have tg : ∀ w : Wy, w ∈ t.map (·.1) → pr C h (.row w.1) - pr C h (.col w.2) = C w := fun w hw => ht.tight (cost := C) w (pm.mem_iff.mp hw)
  have qc : ∀ c ∈ cols, Q c = pr C h (.col c) := fun c hc => by
    obtain ⟨r, hr', e⟩ := A.q2 c (cN c hc)
    have h1 := g r ((ir r).mp hr') c hc
    unfold gap at h1
    obtain ⟨w, hw, ew⟩ := cw c hc
    have h2 := A.q1 c (cN c hc) w.1 ((ir _).mpr (en w hw).1)
    have h3 := tg w hw
    have ew' : (w.1, c) = w := by rw [← ew]
    rw [ew] at h3
    rw [ew'] at h2
    dsimp only at h1
    omega
  refine ⟨fun r hr' => ?_, qc⟩
  obtain ⟨c, hc, e⟩ := A.p2 r (rM r hr')
  have h1 := A.q1 c hc r ((ir r).mpr hr')
  obtain ⟨w, hw, ew⟩ := row_way nr nc cne nd f hr'
  have h2 := A.p1 r (rM r hr') w.2 (cN _ (en w hw).2)
  rw [qc _ (en w hw).2] at h2
  have h3 := tg w hw
  have ew' : (r, w.2) = w := by rw [← ew]
  rw [ew] at h3
  rw [ew'] at h2
  omega
end
end

end Fb

namespace Fb
open PySem PySem.Spec PyProof.Rows L2
section
variable {P : Program} {w : World} {K : PySem.W.Frag} {mg : Str → Option Value} {base : Heap}
/-! ### a haul's plan and prices -/
def spHPlan (CH : Addr) : Sp := fun vs H Q _ => ∃ (a tr mv : Addr) (g M N : Nat) (u : List (Wy × Int)), vs = [.ref a, .int M, .int N] ∧ IsHaul CH H a g tr mv ∧ H mv = some (.dT (tk u)) ∧ (u.map (·.1)).Nodup ∧ M ≤ 60 ∧ N ≤ 60 ∧
  ∀ H' p, Same H H' → Costs H' (.ref p) M N (valOf u) → Q (.ref p) H'
theorem tk_any {u : List (Wy × Int)} (n : (u.map (·.1)).Nodup) (w : Wy) : (valV (tk u) (wk w)).getD (.int 0) = .int (valOf u w) := by
  by_cases c : w ∈ u.map (·.1)
  · obtain ⟨a, ha⟩ := in_keys c
    rw [tk_val n ha, valOf_in n ha]
    rfl
  · rw [tk_no c, valOf_out c]
    rfl
set_option maxHeartbeats 800000 in
theorem ok_m_Haul_plan (T : Txt K mg) : FnOk P w K mg base CX0 1 T.f_m_Haul_plan T.d_m_Haul_plan ["self", "rows", "columns"] (spHPlan T.c_Haul) := by
  refine T.F_m_Haul_plan.ok sc_m_Haul_plan (fun vs H Q E h => ?_) (fun cdv A outer s0 H vs Q E hr h => ?_)
  · obtain ⟨a, tr, mv, g, M, N, u, rfl, _⟩ := h
    rfl
  · obtain ⟨a, tr, mv, g, M, N, u, rfl, ⟨dx, fs, ha, _, _, fm, _⟩, hm, un, lM, lN, q⟩ := h
    refine ⟨_, (pss_one (ps_ret (pe_lc (own := [("row", 3)]) (g := (gName 3)) (tt := tYes) (by rfl) sc_m_Haul_plan.nd (pi_range1 (by rfl) T.z_range (pa_cons (pv 1) pa_nil)) (blkOk_by (own := [("row", 3)]) (N := ["self", "rows", "columns", "row", "column"]) (sc := defScope s_m_Haul_plan) (by decide +kernel)) (fun _ _ _ _ _ => by exact (pg_name (i := 3) sc_m_Haul_plan.nd rfl (.inr rfl))) (fun _ _ _ _ _ => by exact pts_nil) (fun _ _ _ _ _ => by exact (by exact (pe_lc (own := [("column", 4)]) (g := (gName 4)) (tt := tYes) (by rfl) sc_m_Haul_plan.nd (pi_range1 (by rfl) T.z_range (pa_cons (pv 2) pa_nil)) (by exact blkOk_by (own := [("column", 4)]) (by kernel_rfl)) (fun _ _ _ _ _ => by exact (pg_name (i := 4) sc_m_Haul_plan.nd rfl (.inl rfl))) (fun _ _ _ _ _ => by exact pts_nil) (fun _ _ _ _ _ => by exact (pe_dget2 (units1 hr.units) (pe_fldK (K := K) rfl (pv 0) rfl) (pe_tup (pa_cons (pv 3) (pa_cons (pv 4) pa_nil))) pe_int ⟨rfl, rfl, rfl, rfl⟩)))))))), ?_⟩
    refine ⟨_, rfl, _, rfl, by omega, by omega, fun D nD => lc_allR (fun i y G => ∃ ra, y = .ref ra ∧ G ra = some (.lst ((List.range N).map fun j => .int (valOf u (i, j))))) (fun _ _ _ _ s ⟨ra, e, h⟩ => ⟨ra, e, s _ _ h⟩) nD (by omega) (fun i H2 kk hi s2 eD hk => ?_) (fun H2 ys s2 e2 l2 r2 => ?_)⟩
    · have S2 := s2.trans hid_same
      refine ⟨rfl, _, rfl, _, rfl, by omega, by omega, fun D2 nD2 => lc_allR (fun j y _ => y = .int (valOf u (i, j))) (fun _ _ _ _ _ h => h) nD2 (by omega) (fun j H3 k2 hj s3 eD2 hk2 => ?_) (fun H3 ys s3 e3 l3 r3 => ?_)⟩
      · have S3 := S2.trans (s3.trans hid_same)
        refine ⟨rfl, _, rfl, a, _, dx, fs, _, rfl, S3 _ _ ha, T.cl_Haul, T.n_Haul_moves, fm, mv, rfl, .inr ⟨_, .inl (S3 _ _ hm)⟩, _, rfl, _, rfl, by show 2 ≤ sizeLine; decide, fun q1 nq1 => ?_⟩
        have x1 := same_upd (o := .tup [.int (0 + (i : Nat)), .int (0 + (j : Nat))]) nq1
        have e1 : (upd H3 q1 (.tup [.int (0 + (i : Nat)), .int (0 + (j : Nat))])) q1 = some (.tup ((wk (i, j)).map kV)) := by
          rw [upd_same, Int.zero_add, Int.zero_add]
          rfl
        refine ⟨_, DGet.t (x1 _ _ (S3 _ _ hm)) e1, ?_⟩
        exact hk2 _ _ x1 (tk_any un (i, j))
      · have ey : ys = (List.range N).map fun j => V.int (valOf u (i, j)) := by
          refine List.ext_getElem? fun j => ?_
          by_cases hj : j < N
          · have e : ys[j]? = some (ys[j]'(by omega)) := List.getElem?_eq_getElem _
            rw [e, r3 j _ e, List.getElem?_map, List.getElem?_range hj]
            rfl
          · rw [List.getElem?_eq_none (by omega), List.getElem?_eq_none (by rw [List.length_map, List.length_range]; omega)]
        rw [ey] at e3
        refine hk _ _ (s3.trans hid_same) ⟨D2, rfl, ?_⟩
        obtain ⟨zs, hzs⟩ := eD
        have n2 : D2 ≠ D := fun z => by rw [z, hzs] at nD2; cases nD2
        rw [hid_ne n2]
        exact e3
    · refine q _ D (s2.trans hid_same) ⟨D, ys, rfl, e2, by omega, fun i hi => ?_⟩
      have e : ys[i]? = some (ys[i]'(by omega)) := List.getElem?_eq_getElem _
      obtain ⟨ra, h1, h2⟩ := r2 i _ e
      exact ⟨ra, by rw [e, h1], hid_same _ _ h2⟩
def spHPrices (K : PySem.W.Frag) (CH : Addr) : Sp := fun vs H Q _ => ∃ (a tr mv : Addr) (g : Nat) (cv : V) (M N : Nat) (C : Wy → Int) (rows cols : List Nat) (s : Nd → Int) (t : List (Wy × Int)), vs = [.ref a, cv] ∧ IsHaul CH H a g tr mv ∧ H tr = some (.dT (tk t)) ∧ Costs H cv M N C ∧ M ≤ 60 ∧ N ≤ 60 ∧
  Tree rows cols s t ∧ Nondeg (plc rows cols) s ∧ rows.Nodup ∧ cols.Nodup ∧ rows ≠ [] ∧ cols ≠ [] ∧ rows.length ≤ 30 ∧ cols.length ≤ 30 ∧ (∀ r ∈ rows, r < M) ∧ (∀ c ∈ cols, c < N) ∧
  ∀ H' p ph pt Pf Qf hr root h, Same H H' → H' p = some (.tup [.ref ph, .ref pt]) → H' ph = some (.lst ((List.range M).map fun i => .int (Pf i))) → H' pt = some (.lst ((List.range N).map fun i => .int (Qf i))) → HT root h → (t.map (·.1)).Perm (wys h) → (∀ r, Nd.row r ∈ nds root h ↔ r ∈ rows) → (∀ c, Nd.col c ∈ nds root h ↔ c ∈ cols) →
    (∀ r, r ∈ hr ↔ r ∈ rows) → AllP C M N hr (fun r => pr C h (.row r)) Pf Qf → Q (.ref p) H'
set_option maxHeartbeats 800000 in
theorem ok_m_Haul_prices (T : Txt K mg) : FnOk P w K mg base CX0 2 T.f_m_Haul_prices T.d_m_Haul_prices ["self", "costs"] (spHPrices K T.c_Haul) := by
  refine T.F_m_Haul_prices.ok sc_m_Haul_prices (fun vs H Q E h => ?_) (fun cdv A outer s0 H vs Q E hr h => ?_)
  · obtain ⟨a, tr, mv, g, cv, M, N, C, rows, cols, s, t, rfl, _⟩ := h
    rfl
  · obtain ⟨a, tr, mv, g, cv, M, N, C, rows, cols, s, t, rfl, ⟨dx, fs, ha, _, ft, _⟩, ht, hC, lM, lN, Tr, nd, nr, nc, rne, cne, lr, lc, rM, cN, q⟩ := h
    refine ⟨_, (pss_cons (ps_asg (pe_call (ok_p_hang T) (hr.mono (by decide)) (by rfl) T.g_p_hang T.F_p_hang.kp T.b_p_hang .nil pass0 (pa_cons (pv 1) (pa_cons (pe_fld (pv 0) rfl) pa_nil))) (pg_tup (by rfl) (pgs_cons (pg_name (i := 2) sc_m_Haul_prices.nd rfl (.inl rfl)) (pgs_cons (pg_name (i := 3) sc_m_Haul_prices.nd rfl (.inl rfl)) (pgs_cons (pg_name (i := 4) sc_m_Haul_prices.nd rfl (.inl rfl)) (pgs_cons (pg_name (i := 5) sc_m_Haul_prices.nd rfl (.inl rfl)) pgs_nil))))))
 (pss_one (ps_ret (pe_call (ok_p_all_prices T) (hr.mono (by decide)) (by rfl) T.g_p_all_prices T.F_p_all_prices.kp T.b_p_all_prices .nil pass0 (pa_cons (pv 1) (pa_cons (pv 2) pa_nil)))))), ?_⟩
    refine ⟨_, rfl, _, rfl, a, T.c_Haul, dx, fs, _, rfl, ha, T.cl_Haul, T.n_Haul_tree, ft, cv, tr, M, N, C, rows, cols, s, t, rfl, hC, ht, Tr, nd, nr, nc, rne, cne, lr, lc, rM, cN, fun H1 p root h s1 hI => ?_⟩
    obtain ⟨b1, b2, u, d, ab, hp, hT, pm, ⟨rs, cs, U, Dd, nhr, nhc, ir, ic, e1, e2, e3, e4, pu, pd⟩, jr, jc⟩ := hI
    obtain ⟨r0, hr0⟩ := List.exists_mem_of_ne_nil rows rne
    obtain ⟨c0, hc0⟩ := List.exists_mem_of_ne_nil cols cne
    have ir2 : ∀ r, r ∈ rs ↔ r ∈ rows := fun r => (ir r).trans (jr r)
    refine ⟨p, _, rfl, .inl (.inl hp), rfl, _, _, rfl, _, _, rfl, _, _, rfl, _, _, rfl, rfl, ?_⟩
    exact ⟨_, rfl, _, rfl, cv, b1, M, N, C, rs, fun r => pr C h (.row r), rfl, hC.mono s1, Nat.lt_of_le_of_lt (Nat.zero_le _) (rM r0 hr0), Nat.lt_of_le_of_lt (Nat.zero_le _) (cN c0 hc0), lM, lN, e1, (List.ne_nil_of_mem ((ir2 r0).mpr hr0)),
      Nat.le_trans (sub_len nhr fun r hr => (ir2 r).mp hr) lr, fun r hr => rM r ((ir2 r).mp hr), fun H2 p2 ph pt Pf Qf s2 e2 hph hpt A => q _ p2 ph pt Pf Qf rs root h (s1.trans s2) e2 hph hpt hT pm jr jc ir2 A⟩
end

end Fb

namespace Fb
open PySem PySem.Spec PyProof.Rows L2
section
variable {P : Program} {w : World} {K : PySem.W.Frag} {mg : Str → Option Value} {base : Heap}
/-! ### heaps, and rows of shares -/
theorem md_of {C : Addr} {H : Hp} {ws : List V} {qs : List Rat} (a : AllAre (IsShare C H) ws qs) : AllAre (IsMd C H) ws (qs.map some) := .of_ix (by rw [a.1, List.length_map]) fun i y hy => by
  obtain ⟨q, h1, h2⟩ := a.at hy
  exact ⟨some q, by rw [List.getElem?_map, h1]; rfl, h2⟩
theorem row_of {C : Addr} {H : Hp} {v : V} {qs : List Rat} (h : IsShares C H v qs) : IsRw K C H v (some (qs.map some)) := by
  obtain ⟨p, ws, e, hp, a⟩ := h
  exact ⟨p, ws, e, hp, md_of a⟩
theorem amOk_of {qs : List Rat} (nn : ∀ q ∈ qs, 0 ≤ q) : amOk (qs.map some) qs.length = true := by
  unfold amOk shOk
  rw [Bool.and_eq_true, Bool.and_eq_true, List.all_eq_true, List.all_eq_true]
  refine ⟨⟨decide_eq_true (List.length_map _), fun o ho => ?_⟩, fun o ho => ?_⟩
  · obtain ⟨q, _, rfl⟩ := List.mem_map.mp ho
    rfl
  · obtain ⟨q, hq, rfl⟩ := List.mem_map.mp ho
    exact decide_eq_true (nn q hq)
/-- a heap with any bottom up to 100000 -/
structure HeapG (qs : List Rat) : Prop where
  nn : ∀ q ∈ qs, 0 ≤ q
  den : ∃ S : Nat, 0 < S ∧ S ≤ 100000 ∧ ∀ q ∈ qs, q.den ∣ S
  one : rsum qs = 1
theorem HeapOk.g {l : List Rat} (h : HeapOk l) : HeapG l := ⟨h.nn, by obtain ⟨S, a, b, c⟩ := h.den; exact ⟨S, a, by omega, c⟩, h.one⟩
theorem heapG_le1 {l : List Rat} (h : HeapG l) {q : Rat} (hq : q ∈ l) : q ≤ 1 := by
  obtain ⟨i, hi, e⟩ := List.mem_iff_getElem.mp hq
  have := rsumN_ge (n := l.length) (f := at0 l) (fun j hj => h.nn _ (at0_mem hj)) hi
  rw [rsumN_at0, h.one, at0_of (List.getElem?_eq_getElem hi), e] at this
  exact this
theorem heap_bd21 {l : List Rat} (h : HeapG l) : ∀ q ∈ l, Bd 21 q := fun q hq => by
  obtain ⟨S, s0, s1, sd⟩ := h.den
  exact bd_frac (h.nn q hq) (heapG_le1 h hq) s0 (by omega) (sd q hq)
theorem heap_few {qs : List Rat} (h : HeapG qs) (l : qs.length ≤ 12) : Few 21 12 qs := ⟨heap_bd21 h, l, by decide, by decide, by decide⟩
def spIsHeap (C : Addr) : Sp := fun vs H Q _ => ∃ (v : V) (qs : List Rat), vs = [v] ∧ IsShares C H v qs ∧ HeapG qs ∧ 1 ≤ qs.length ∧ qs.length ≤ 12 ∧ ∀ H', Same H H' → Q (.bl true) H'
theorem ok_p_is_heap (T : Txt K mg) : FnOk P w K mg base CX0 5 T.f_p_is_heap T.d_p_is_heap ["thing"] (spIsHeap T.c_Share) := by
  refine T.F_p_is_heap.ok sc_p_is_heap (fun vs H Q E h => ?_) (fun cdv A outer s H vs Q E hr h => ?_)
  · obtain ⟨v, qs, rfl, _⟩ := h
    rfl
  · obtain ⟨v, qs, rfl, hv, ok, l1, l12, q⟩ := h
    obtain ⟨ds, hds, bds⟩ := T.e_m_Share_init
    refine ⟨_, (pss_cons (ps_if (PW.pt (pw_or (pt_not (pt_val (pe_callB call_isi (by rfl) T.z_isinstance (by decide +kernel) (pa_cons (pv 0) (pa_cons (pe_bltn (v := .ty "list") (by rfl) T.z_list (by decide +kernel) rfl) pa_nil))))) (pw_or1 (pt_not (pt_chain op_le op_le pe_int (pe_callB call_len_seq (by rfl) T.z_len (by decide +kernel) (pa_cons (pv 0) pa_nil)) (pe_glob (by rfl) T.g_MOST_PLACES T.r_MOST_PLACES))))))
  (pss_one (ps_ret pe_bl))
  pss_nil)
 (pss_one (ps_ret (pe_and (pe_call (ok_p_are_amounts T) (hr.mono (by decide)) (by rfl) T.g_p_are_amounts T.F_p_are_amounts.kp T.b_p_are_amounts .nil pass0 (pa_cons (pv 0) (pa_cons (pe_callB call_len_seq (by rfl) T.z_len (by decide +kernel) (pa_cons (pv 0) pa_nil)) pa_nil))) (pe_one (pe_cmpR (op_eqOwn (C := T.c_Share) (ok_m_Share_eq T) (hr.mono (by decide)) T.b_m_Share_eq T.h_m_Share_eq.at_ T.h_m_Share_eq.fn) (pe_call (ok_p_sum_of T) (hr.mono (by decide)) (by rfl) T.g_p_sum_of T.F_p_sum_of.kp T.b_p_sum_of .nil pass0 (pa_cons (pv 0) pa_nil)) (pe_make T.M_Share (ok_m_Share_init T) (hr.mono (by decide)) (by rfl) T.g_Share bds hds pass0 (pa_cons pe_int pa_nil)) (nomark _))))))), ?_⟩
    obtain ⟨p, ws, rfl, hp, aa⟩ := id hv
    have lw := aa.1
    refine ⟨_, rfl, _, _, _, _, true, rfl, .ty _, .base (.lst hp), kit_ty (by decide +kernel), true, rfl, iteF ?_⟩
    refine ⟨_, rfl, p, ws, rfl, .inl (SqL.of hp), _, _, rfl, rfl, true, congrArg V.bl (decide_eq_true (by omega)), iteT ⟨_, _, rfl, rfl, true, congrArg V.bl (decide_eq_true (by omega)), iteF ?_⟩⟩
    refine ⟨_, rfl, _, rfl, p, ws, rfl, .inl (SqL.of hp), .ref p, ws.length, some (qs.map some), rfl, row_of hv, fun its e => by cases e; rw [List.length_map]; omega, fun H1 s1 => ⟨true, congrArg V.bl (by rw [lw]; exact amOk_of ok.nn), iteT ?_⟩⟩
    refine ⟨_, rfl, _, qs, 21, 12, rfl, hv.mono s1, heap_few ok l12, by decide, fun H2 r s2 hr2 => ?_⟩
    refine mk_share (t := 1) (b := 1) (by decide) (by decide) fun H3 r3 s3 h3 => ?_
    have e1 : Rat.divInt 1 1 = 1 := by decide +kernel
    rw [e1] at h3
    refine eqS T (hr2.mono s3) h3 ?_
    rw [ok.one]
    exact q H3 (s1.trans (s2.trans s3))
theorem none_back2 {H H' : Hp} {a : Addr} (s : Same H H') (n : H' a = none) : H a = none := by
  cases hz : H a with
  | none => rfl
  | some o =>
    rw [s _ _ hz] at n
    cases n
def spOver (C : Addr) : Sp := fun vs H Q _ => ∃ (v : V) (b M N : Nat) (f : Wy → Int), vs = [.int b, v] ∧ 0 < b ∧ b < 2 ^ 8000 ∧ M ≤ 60 ∧ N ≤ 60 ∧ Costs H v M N f ∧
  ∀ H' p ys, H p = none → Same H H' → H' p = some (.lst ys) → (∀ y ∈ ys, ∃ a, y = .ref a ∧ H a = none) → AllAre (IsShares C H') ys ((List.range M).map fun i => (List.range N).map fun j => Rat.divInt (f (i, j)) b) → Q (.ref p) H'
set_option maxHeartbeats 800000 in
theorem ok_p_shares_over (T : Txt K mg) : FnOk P w K mg base CX0 4 T.f_p_shares_over T.d_p_shares_over ["bottom", "rows"] (spOver T.c_Share) := by
  refine T.F_p_shares_over.ok sc_p_shares_over (fun vs H Q E h => ?_) (fun cdv A outer s H vs Q E hr h => ?_)
  · obtain ⟨v, b, M, N, f, rfl, _⟩ := h
    rfl
  · obtain ⟨v, b, M, N, f, rfl, b0, bB, lM, lN, ⟨a, rows, rfl, ha, rl, rat⟩, q⟩ := h
    refine ⟨_, (pss_one (ps_ret (pe_lc (own := [("row", 2)]) (g := (gName 2)) (tt := tYes) (by rfl) sc_p_shares_over.nd (pi_list (pv 1)) (blkOk_by (own := [("row", 2)]) (N := ["bottom", "rows", "row", "top"]) (sc := defScope s_p_shares_over) (by decide +kernel)) (fun _ _ _ _ _ => by exact (pg_name (i := 2) sc_p_shares_over.nd rfl (.inl rfl))) (fun _ _ _ _ _ => by exact pts_nil) (fun _ _ _ _ _ => by exact (by exact (pe_lc (own := [("top", 3)]) (g := (gName 3)) (tt := tYes) (by rfl) sc_p_shares_over.nd (pi_listK (K := K) rfl (pv 2)) (by exact blkOk_by (own := [("top", 3)]) (by kernel_rfl)) (fun _ _ _ _ _ => by exact (pg_name (i := 3) sc_p_shares_over.nd rfl (.inl rfl))) (fun _ _ _ _ _ => by exact pts_nil) (fun _ _ _ _ _ => by exact (pe_make T.M_Share (ok_m_Share_init T) (hr.mono (by decide)) (by rfl) T.g_Share T.b_m_Share_init .nil pass0 (pa_cons (pv 3) (pa_cons (pv 0) pa_nil)))))))))), ?_⟩
    refine ⟨_, rfl, a, rfl, ⟨_, SqL.of ha⟩, fun D nD => lc_all (K := K) (a := a) (xs := rows) (fun i y G => (∃ z, y = .ref z ∧ H z = none) ∧ IsShares T.c_Share G y ((List.range N).map fun j => Rat.divInt (f (i, j)) b)) (fun _ _ _ _ s h => ⟨h.1, h.2.mono s⟩) nD (SqL.of ha) (by omega) (fun i x H2 kk hi s2 eD hk => ?_) (fun H2 ys s2 e2 l2 r2 => ?_)⟩
    · have il : i < M := by rw [← rl]; exact (List.getElem?_eq_some_iff.mp hi).1
      obtain ⟨ri, g1, e1⟩ := rat i il
      rw [g1] at hi
      cases hi
      have S2 := s2.trans hid_same
      have e3 := S2 _ _ e1
      refine ⟨rfl, _, rfl, ri, rfl, ⟨_, SqL.of e3⟩, fun D2 nD2 => lc_all (K := K) (a := ri) (xs := (List.range N).map fun j => V.int (f (i, j))) (fun j y G => IsShare T.c_Share G y (Rat.divInt (f (i, j)) b)) (fun _ _ _ _ s h => h.mono s) nD2 (SqL.of e3) (by rw [List.length_map, List.length_range]; omega) (fun j x H3 k2 hj s3 eD2 hk2 => ?_) (fun H3 ys s3 e4 l3 r3 => ?_)⟩
      · rw [List.getElem?_map] at hj
        obtain ⟨j', hj', ex⟩ := Option.map_eq_some_iff.mp hj
        have jl := (List.getElem?_eq_some_iff.mp hj').1
        rw [List.length_range] at jl
        rw [List.getElem?_range jl] at hj'
        cases hj'
        subst ex
        refine ⟨rfl, _, rfl, _, rfl, ?_⟩
        refine mk_share (by omega) (log_of (n := 8000) (by decide) (by omega) (by decide)) fun H4 r sm hr4 => ?_
        obtain ⟨zs, hzs⟩ := eD2
        exact hk2 _ _ sm (hr4.hidL ⟨zs, sm _ _ hzs⟩)
      · refine hk _ _ (s3.trans hid_same) ⟨⟨D2, rfl, none_back2 S2 nD2⟩, IsShares.hidN ?_ ?_ ⟨D2, ys, rfl, e4, .of_ix (by rw [l3, List.length_map, List.length_range, List.length_map, List.length_range]) fun j y hy => ?_⟩⟩
        · obtain ⟨zs, hzs⟩ := eD
          exact fun z => by (rw [z, hzs] at nD2; cases nD2)
        · obtain ⟨zs, hzs⟩ := eD
          exact ⟨zs, hid_same _ _ (s3 _ _ hzs)⟩
        · have jl := (List.getElem?_eq_some_iff.mp hy).1
          rw [l3, List.length_map, List.length_range] at jl
          exact ⟨_, by rw [List.getElem?_map, List.getElem?_range jl]; rfl, (r3 j y hy).mono hid_same⟩
    · refine q _ D ys nD (s2.trans hid_same) e2 (fun y hy => ?_) (.of_ix (by rw [l2, rl, List.length_map, List.length_range]) fun i y hy => ?_)
      · obtain ⟨i, hi⟩ := List.getElem?_of_mem hy
        exact (r2 i y hi).1
      have il := (List.getElem?_eq_some_iff.mp hy).1
      rw [l2, rl] at il
      exact ⟨_, by rw [List.getElem?_map, List.getElem?_range il]; rfl, (r2 i y hy).2.mono hid_same⟩
/-- of a tuple of two lists -/
def spOver2 (C : Addr) : Sp := fun vs H Q _ => ∃ (p x y : Addr) (b M N : Nat) (f g : Nat → Int), vs = [.int b, .ref p] ∧ 0 < b ∧ b < 2 ^ 8000 ∧ M ≤ 60 ∧ N ≤ 60 ∧ H p = some (.tup [.ref x, .ref y]) ∧ H x = some (.lst ((List.range M).map fun i => .int (f i))) ∧ H y = some (.lst ((List.range N).map fun i => .int (g i))) ∧
  ∀ H' p' x' y', H x' = none → H y' = none → Same H H' → H' p' = some (.lst [.ref x', .ref y']) → IsShares C H' (.ref x') ((List.range M).map fun i => Rat.divInt (f i) b) → IsShares C H' (.ref y') ((List.range N).map fun i => Rat.divInt (g i) b) → Q (.ref p') H'
set_option maxHeartbeats 800000 in
theorem ok_p_shares_over2 (T : Txt K mg) : FnOk P w K mg base CX0 4 T.f_p_shares_over T.d_p_shares_over ["bottom", "rows"] (spOver2 T.c_Share) := by
  refine T.F_p_shares_over.ok sc_p_shares_over (fun vs H Q E h => ?_) (fun cdv A outer s H vs Q E hr h => ?_)
  · obtain ⟨p, x, y, b, M, N, f, g, rfl, _⟩ := h
    rfl
  · obtain ⟨p, x, y, b, M, N, f, g, rfl, b0, bB, lM, lN, hp, hx, hy, q⟩ := h
    refine ⟨_, (pss_one (ps_ret (pe_lc (own := [("row", 2)]) (g := (gName 2)) (tt := tYes) (by rfl) sc_p_shares_over.nd (pi_tup (pv 1)) (blkOk_by (own := [("row", 2)]) (N := ["bottom", "rows", "row", "top"]) (sc := defScope s_p_shares_over) (by decide +kernel)) (fun _ _ _ _ _ => by exact (pg_name (i := 2) sc_p_shares_over.nd rfl (.inl rfl))) (fun _ _ _ _ _ => by exact pts_nil) (fun _ _ _ _ _ => by exact (by exact (pe_lc (own := [("top", 3)]) (g := (gName 3)) (tt := tYes) (by rfl) sc_p_shares_over.nd (pi_listK (K := K) rfl (pv 2)) (by exact blkOk_by (own := [("top", 3)]) (by kernel_rfl)) (fun _ _ _ _ _ => by exact (pg_name (i := 3) sc_p_shares_over.nd rfl (.inl rfl))) (fun _ _ _ _ _ => by exact pts_nil) (fun _ _ _ _ _ => by exact (pe_make T.M_Share (ok_m_Share_init T) (hr.mono (by decide)) (by rfl) T.g_Share T.b_m_Share_init .nil pass0 (pa_cons (pv 3) (pa_cons (pv 0) pa_nil)))))))))), ?_⟩
    obtain ⟨ns, en⟩ : ∃ ns : List (List Int), ns = [(List.range M).map f, (List.range N).map g] := ⟨_, rfl⟩
    have atp : ∀ (i : Nat) (v : V), [V.ref x, V.ref y][i]? = some v → ∃ (z : Addr) (l : List Int), v = .ref z ∧ ns[i]? = some l ∧ l.length ≤ 60 ∧ H z = some (.lst (l.map V.int)) := fun i v hi => by
      match i, hi with
      | 0, hi => cases hi; exact ⟨x, _, rfl, by rw [en]; rfl, by rw [List.length_map, List.length_range]; exact lM, by rw [hx, List.map_map]; rfl⟩
      | 1, hi => cases hi; exact ⟨y, _, rfl, by rw [en]; rfl, by rw [List.length_map, List.length_range]; exact lN, by rw [hy, List.map_map]; rfl⟩
      | n + 2, hi => simp at hi
    refine ⟨_, rfl, p, rfl, ⟨_, (.inl (.inl hp))⟩, fun D nD => lc_allW (walk_tup (K := K) (a := p) (xs := [V.ref x, V.ref y])) (fun i y G => ∃ l, ns[i]? = some l ∧ (∃ z, y = .ref z ∧ H z = none) ∧ IsShares T.c_Share G y (l.map fun k => Rat.divInt k b)) (fun _ _ _ _ s ⟨l, h1, h2, h3⟩ => ⟨l, h1, h2, h3.mono s⟩) nD (fun H' s => .inl (.inl (s _ _ hp))) (by show 2 ≤ 1000; decide) (fun i v H2 H2' kk il s2 eD yy hk => ?_) (fun H2 ys s2 e2 l2 r2 => ?_)⟩
    · obtain ⟨rfl, hi⟩ := yy
      obtain ⟨z, l, rfl, hl, ll, hz⟩ := atp i v hi
      have S2 := s2.trans hid_same
      have e3 := S2 _ _ hz
      refine ⟨rfl, _, rfl, z, rfl, ⟨_, SqL.of e3⟩, fun D2 nD2 => lc_all (K := K) (a := z) (xs := l.map V.int) (fun j y G => ∃ k, l[j]? = some k ∧ IsShare T.c_Share G y (Rat.divInt k b)) (fun _ _ _ _ s ⟨k, h1, h2⟩ => ⟨k, h1, h2.mono s⟩) nD2 (SqL.of e3) (by rw [List.length_map]; omega) (fun j x H3 k2 hj s3 eD2 hk2 => ?_) (fun H3 ys s3 e4 l3 r3 => ?_)⟩
      · rw [List.getElem?_map] at hj
        obtain ⟨k, hk', ex⟩ := Option.map_eq_some_iff.mp hj
        subst ex
        refine ⟨rfl, _, rfl, _, rfl, ?_⟩
        refine mk_share (by omega) (log_of (n := 8000) (by decide) (by omega) (by decide)) fun H4 r sm hr4 => ?_
        obtain ⟨zs, hzs⟩ := eD2
        exact hk2 _ _ sm ⟨k, hk', hr4.hidL ⟨zs, sm _ _ hzs⟩⟩
      · refine hk _ _ (s3.trans hid_same) ⟨l, hl, ⟨D2, rfl, none_back2 S2 nD2⟩, IsShares.hidN ?_ ?_ ⟨D2, ys, rfl, e4, .of_ix (by rw [l3, List.length_map, List.length_map]) fun j y hy => ?_⟩⟩
        · obtain ⟨zs, hzs⟩ := eD
          exact fun z => by (rw [z, hzs] at nD2; cases nD2)
        · obtain ⟨zs, hzs⟩ := eD
          exact ⟨zs, hid_same _ _ (s3 _ _ hzs)⟩
        · obtain ⟨k, h1, h2⟩ := r3 j y hy
          exact ⟨_, by rw [List.getElem?_map, h1]; rfl, h2.mono hid_same⟩
    · have l2 : ys.length = 2 := l2
      match ys, l2 with
      | [y0, y1], _ =>
        obtain ⟨l0, h0, ⟨z0, rfl, n0⟩, s0⟩ := r2 0 y0 rfl
        obtain ⟨l1, h1, ⟨z1, rfl, n1⟩, s1⟩ := r2 1 y1 rfl
        rw [en] at h0 h1
        cases h0
        cases h1
        rw [List.map_map] at s0 s1
        exact q _ D z0 z1 n0 n1 (s2.trans hid_same) e2 (s0.mono hid_same) (s1.mono hid_same)
end
end Fb

namespace Fb
open PySem PySem.Spec PyProof.Rows L2
section
/-! ### what a haul carries, and what it costs, told at all places -/
structure Hauled (C : Wy → Int) (M N : Nat) (X Y : Nat → Int) (u : List (Wy × Int)) (P Q : Nat → Int) : Prop where
  nn : ∀ w, 0 ≤ valOf u w
  row : ∀ r, r < M → vsum (List.range N) (fun c => valOf u (r, c)) = X r
  col : ∀ c, c < N → vsum (List.range M) (fun r => valOf u (r, c)) = Y c
  pq : ∀ r, r < M → ∀ c, c < N → P r - Q c ≤ C (r, c)
  cost : vsum (List.range M) (fun r => vsum (List.range N) fun c => C (r, c) * valOf u (r, c)) = vsum (List.range M) (fun r => X r * P r) - vsum (List.range N) fun c => Y c * Q c
theorem in_filled {as : List Int} {r : Nat} : r ∈ filled as ↔ r < as.length ∧ 0 < as.getD r 0 := by
  unfold filled fld
  rw [List.mem_filter, List.mem_range, decide_eq_true_iff]
theorem xOf_out {as : List Int} (nn : ∀ a ∈ as, 0 ≤ a) {r : Nat} (h : r ∉ filled as) (g : Nat) : xOf as g r = 0 := by
  have h0 := getD_nn nn r
  have : as.getD r 0 = 0 := by
    by_cases c : r < as.length
    · by_cases d : 0 < as.getD r 0
      · exact absurd (in_filled.mpr ⟨c, d⟩) h
      · omega
    · rw [List.getD_eq_getElem?_getD, List.getElem?_eq_none (by omega)]
      rfl
  unfold xOf
  rw [this, Int.zero_mul]
theorem over_all {as : List Int} (nn : ∀ a ∈ as, 0 ≤ a) (g : Nat) (f : Nat → Int) : vsum (filled as) (fun i => xOf as g i * f i) = vsum (List.range as.length) fun i => xOf as g i * f i := all_filled nn _ f
theorem bal_out {t : List (Wy × Int)} {v : Nd} (h : ∀ p ∈ t, v.on p.1 ≠ true) : bal t v = 0 := vsum_zero fun p hp => if_neg (h p hp)
theorem col_way {rows cols : List Nat} {s : Nd → Int} {t : List (Wy × Int)} (nr : rows.Nodup) (nc : cols.Nodup) (rne : rows ≠ []) (nd : Nondeg (plc rows cols) s) (f : Feas (plc rows cols) s t) {c : Nat} (hc : c ∈ cols) : ∃ w : Wy, w ∈ t.map (·.1) ∧ w.2 = c := by
  by_cases q : ∃ w : Wy, w ∈ t.map (·.1) ∧ w.2 = c
  · exact q
  · exfalso
    have rv : Nd.col c ∈ plc rows cols := col_plc.mpr hc
    have b0 : bal t (.col c) = 0 := vsum_zero fun p hp => if_neg fun z => q ⟨p.1, List.mem_map_of_mem hp, (of_decide_eq_true z).symm⟩
    have s0 : s (.col c) = 0 := by rw [← f.2 _ rv, b0]
    obtain ⟨r0, hr0⟩ := List.exists_mem_of_ne_nil rows rne
    have e := vsum_one (plc_nodup nr nc) (a := Nd.col c) fun v => v.ep * s v
    rw [if_pos rv, s0, Int.mul_zero] at e
    have := nd (fun v => decide (v = .col c)) (by
      refine (vsum_congr fun v _ => ?_).trans e
      by_cases q : v = .col c
      · rw [if_pos q, if_pos (decide_eq_true q)]
      · rw [if_neg q, if_neg (fun z => q (of_decide_eq_true z))]) ⟨_, rv, decide_eq_true rfl⟩ (.row r0) (row_plc.mpr hr0)
    exact Nd.noConfusion (of_decide_eq_true this)
theorem hauled {C : Wy → Int} {as bs : List Int} {g : Nat} {last root : Nat} {h : Hg} {t : List (Wy × Int)} {hr : List Nat} {P Q : Nat → Int} (nn1 : ∀ a ∈ as, 0 ≤ a) (nn2 : ∀ a ∈ bs, 0 ≤ a) (p1 : 0 < as.sum) (p2 : 0 < bs.sum) (nd : Nondeg (plc (filled as) (filled bs)) (sFirst (filled as) (xOf as g) (xOf bs g) last))
    (T : Tree (filled as) (filled bs) (sFirst (filled as) (xOf as g) (xOf bs g) last) t) (R : Ripe C (filled as) (filled bs) t) (ht : HT root h) (pm : (t.map (·.1)).Perm (wys h)) (jr : ∀ r, Nd.row r ∈ nds root h ↔ r ∈ filled as) (jc : ∀ c, Nd.col c ∈ nds root h ↔ c ∈ filled bs)
    (ir : ∀ r, r ∈ hr ↔ r ∈ filled as) (A : AllP C as.length bs.length hr (fun r => pr C h (.row r)) P Q) : Hauled C as.length bs.length (xOf as g) (xOf bs g) (rnd (filled as).length t) P Q := by
  have fn1 : (filled as).Nodup := fld_nodup as as.length
  have fn2 : (filled bs).Nodup := fld_nodup bs bs.length
  have ne1 := filled_ne nn1 p1
  have ne2 := filled_ne nn2 p2
  have rM : ∀ r ∈ filled as, r < as.length := fun r hr => (in_filled.mp hr).1
  have cN : ∀ c ∈ filled bs, c < bs.length := fun c hc => (in_filled.mp hc).1
  have b := rnd_bal fn1 fn2 T ht pm jr jc
  have en := rnd_ends T
  have un := rnd_nodup (filled as).length T.nd
  have uM : ∀ p ∈ rnd (filled as).length t, p.1.1 < as.length := fun p hp => rM _ (row_plc.mp (en p hp).1)
  have uN : ∀ p ∈ rnd (filled as).length t, p.1.2 < bs.length := fun p hp => cN _ (col_plc.mp (en p hp).2)
  obtain ⟨hP, hQ⟩ := A.same ir rM cN fn1 fn2 ne1 ne2 nd T.feas (fun c hc => col_way fn1 fn2 ne1 nd T.feas hc) ht pm fun r hr c hc => R.any fn1 fn2 nd T.feas ht pm hr hc
  refine ⟨fun w => ?_, fun r _ => ?_, fun c _ => ?_, fun r hr c hc => ?_, ?_⟩
  · by_cases c : w ∈ (rnd (filled as).length t).map (·.1)
    · obtain ⟨a, ha⟩ := in_keys c
      rw [valOf_in un ha]
      exact Int.le_of_lt (of_decide_eq_true (List.mem_filter.mp ha).2)
    · rw [valOf_out c]
      exact Int.le_refl _
  · rw [row_total un uN]
    by_cases c : r ∈ filled as
    · exact b _ (row_plc.mpr c)
    · rw [xOf_out nn1 c]
      exact bal_out fun p hp z => c (by
        have e : r = p.1.1 := of_decide_eq_true z
        rw [e]
        exact row_plc.mp (en p hp).1)
  · rw [col_total un uM]
    by_cases d : c ∈ filled bs
    · exact b _ (col_plc.mpr d)
    · rw [xOf_out nn2 d]
      exact bal_out fun p hp z => d (by
        have e : c = p.1.2 := of_decide_eq_true z
        rw [e]
        exact col_plc.mp (en p hp).2)
  · have := A.p1 r hr c hc
    omega
  · rw [all_total un uM uN, rnd_cost fn1 fn2 T ht pm jr jc, ← over_all nn1, ← over_all nn2]
    congr 1
    · exact vsum_congr fun r hr => by rw [hP r hr]
    · exact vsum_congr fun c hc => by rw [hQ c hc]
/-- how great prices are -/
theorem pr_bd {C : Wy → Int} {B : Int} (B0 : 0 ≤ B) : ∀ {h : Hg}, (∀ w ∈ wys h, -B ≤ C w ∧ C w ≤ B) → ∀ v, -(h.length * B) ≤ pr C h v ∧ pr C h v ≤ h.length * B
  | [], _, v => by
    show -((0 : Nat) * B : Int) ≤ 0 ∧ (0 : Int) ≤ (0 : Nat) * B
    constructor <;> simp
  | (n, w) :: h, hw, v => by
    have ih := pr_bd B0 (h := h) fun u hu => hw u (List.mem_cons_of_mem _ hu)
    have cw := hw w List.mem_cons_self
    have e : (((n, w) :: h).length : Int) * B = h.length * B + B := by
      rw [List.length_cons, Int.natCast_add, Int.add_mul]
      show _ + 1 * B = _
      rw [Int.one_mul]
    rw [e]
    have i1 := ih v
    unfold pr
    by_cases c : v = n
    · rw [if_pos c]
      cases n with
      | row r =>
        have := ih (.col w.2)
        dsimp only
        omega
      | col r =>
        have := ih (.row w.1)
        dsimp only
        omega
    · rw [if_neg c]
      omega
theorem AllP.bd {C : Wy → Int} {M N : Nat} {hr : List Nat} {f P Q : Nat → Int} {B D : Int} (A : AllP C M N hr f P Q) (hf : ∀ r ∈ hr, -D ≤ f r ∧ f r ≤ D) (hC : ∀ r, r < M → ∀ c, c < N → -B ≤ C (r, c) ∧ C (r, c) ≤ B) (hM : ∀ r ∈ hr, r < M) : (∀ r, r < M → -(D + B + B) ≤ P r ∧ P r ≤ D + B + B) ∧ ∀ c, c < N → -(D + B + B) ≤ Q c ∧ Q c ≤ D + B + B := by
  have q : ∀ c, c < N → -(D + B) ≤ Q c ∧ Q c ≤ D + B := fun c hc => by
    obtain ⟨r, hr', e⟩ := A.q2 c hc
    have := hf r hr'
    have := hC r (hM r hr') c hc
    omega
  refine ⟨fun r hr' => ?_, fun c hc => ?_⟩
  · obtain ⟨c, hc, e⟩ := A.p2 r hr'
    have := q c hc
    have := hC r hr' c hc
    omega
  · have h1 := q c hc
    obtain ⟨r, hr', e⟩ := A.q2 c hc
    have := hC r (hM r hr') c hc
    omega
end

end Fb

namespace Fb
open PySem PySem.Spec PyProof.Rows L2
section
variable {P : Program} {w : World} {K : PySem.W.Frag} {mg : Str → Option Value} {base : Heap}
/-! ### the cheapest plan -/
/-- costs: over one bottom up to 10^6, up to 10^22 -/
structure CostG (css : List (List Rat)) (k b : Nat) : Prop where
  b0 : 0 < b
  b1 : b ≤ 1000000
  row : ∀ qs ∈ css, qs.length = k ∧ ∀ q ∈ qs, Nice b 10000000000000000000000 q
structure PlanG (pss : List (List Rat)) (S : Nat) : Prop where
  s0 : 0 < S
  s1 : S ≤ 10000000000
  row : ∀ qs ∈ pss, qs.length ≤ 12 ∧ ∀ q ∈ qs, Nice S 1 q
theorem lcm_of {S : Nat} : ∀ (qs : List Rat) (L : Nat), L ∣ S → (∀ q ∈ qs, q.den ∣ S) → lcmOn L qs ∣ S
  | [], _, h, _ => h
  | q :: qs, L, h, a => lcm_of qs _ (by
    have : L * (q.den / Nat.gcd L q.den) = Nat.lcm L q.den := by rw [Nat.lcm, Nat.mul_div_assoc _ (Nat.gcd_dvd_right _ _)]
    rw [this]
    exact Nat.lcm_dvd h (a q List.mem_cons_self)) fun r hr => a r (List.mem_cons_of_mem _ hr)
def wholeC (U : Nat) (css : List (List Rat)) (w : Wy) : Int := (at0 (css.getD w.1 []) w.2).num * ((U / (at0 (css.getD w.1 []) w.2).den : Nat) : Int)
theorem tops_row {U : Nat} {css : List (List Rat)} {i N : Nat} {qs : List Rat} (h : css[i]? = some qs) (l : qs.length = N) : (topsOf U qs).map V.int = (List.range N).map fun j => V.int (wholeC U css (i, j)) := by
  have e : css.getD i [] = qs := by rw [List.getD_eq_getElem?_getD, h]; rfl
  refine List.ext_getElem? fun j => ?_
  unfold topsOf wholeC
  by_cases hj : j < N
  · rw [List.getElem?_map, List.getElem?_map, List.getElem?_map, List.getElem?_range hj, List.getElem?_eq_getElem (by omega)]
    simp only [e, Option.map_some]
    rw [at0_of (List.getElem?_eq_getElem (by omega))]
  · rw [List.getElem?_eq_none (by rw [List.length_map, List.length_map]; omega), List.getElem?_eq_none (by rw [List.length_map, List.length_range]; omega)]
/-- a plan's shares -/
def planOf (M N g : Nat) (u : List (Wy × Int)) : List (List Rat) := (List.range M).map fun i => (List.range N).map fun j => Rat.divInt (valOf u (i, j)) g
def pricesOf (M U : Nat) (P : Nat → Int) : List Rat := (List.range M).map fun i => Rat.divInt (P i) U
/-- wider than HPf's -/
def spCheapest (CS : Addr) : Sp := fun vs H Q _ => ∃ (cv fv gv : V) (css : List (List Rat)) (ps qs : List Rat) (b : Nat), vs = [cv, fv, gv] ∧ IsTbl (IsShares CS) H cv css ∧ IsShares CS H fv ps ∧ IsShares CS H gv qs ∧ HeapG ps ∧ HeapG qs ∧ 1 ≤ ps.length ∧ ps.length ≤ 12 ∧ 1 ≤ qs.length ∧ qs.length ≤ 12 ∧
  css.length = ps.length ∧ CostG css qs.length b ∧ (∀ l ∈ css, ∀ q ∈ l, 0 ≤ q) ∧
  ∀ H' r c pl x y pr u Pf Qf rys G U, Same H H' → H' r = some (.tup [c, .ref pl, .ref pr]) → H' pr = some (.tup [.ref x, .ref y]) → H y = none → H' pl = some (.lst rys) → (∀ z ∈ rys, ∃ a, z = .ref a ∧ H a = none) → AllAre (IsShares CS H') rys (planOf ps.length qs.length G u) →
    IsShares CS H' (.ref x) (pricesOf ps.length U Pf) → IsShares CS H' (.ref y) (pricesOf qs.length U Qf) → IsShare CS H' c (dot css.flatten (planOf ps.length qs.length G u).flatten) →
    U = lcmOn 1 css.flatten → G = lcmOn 1 (ps ++ qs) → Hauled (wholeC U css) ps.length qs.length (fun i => (topsOf G ps).getD i 0) (fun i => (topsOf G qs).getD i 0) u Pf Qf →
    (∀ r, r < ps.length → -(62 * (10000000000000000000000 * U) : Int) ≤ Pf r ∧ Pf r ≤ 62 * (10000000000000000000000 * U)) → (∀ c, c < qs.length → -(62 * (10000000000000000000000 * U) : Int) ≤ Qf c ∧ Qf c ≤ 62 * (10000000000000000000000 * U)) → Q (.ref r) H'
theorem table_of {C : Addr} {H : Hp} {v : V} {css : List (List Rat)} (h : IsTbl (IsShares C) H v css) : IsL (IsRw K C) H v (css.map fun l => some (l.map some)) := by
  obtain ⟨p, vs, e, hp, a⟩ := h
  refine ⟨p, vs, e, hp, .of_ix (by rw [a.1, List.length_map]) fun i y hy => ?_⟩
  obtain ⟨l, h1, h2⟩ := a.at hy
  exact ⟨_, by rw [List.getElem?_map, h1]; rfl, row_of h2⟩
theorem table_ok {css : List (List Rat)} {m k : Nat} (lm : css.length = m) (lk : ∀ l ∈ css, l.length = k) (nn : ∀ l ∈ css, ∀ q ∈ l, 0 ≤ q) : tabOk (css.map fun l => some (l.map some)) m k = true := by
  unfold tabOk
  rw [Bool.and_eq_true, List.all_eq_true]
  refine ⟨decide_eq_true (by rw [List.length_map, lm]), fun r hr => ?_⟩
  obtain ⟨l, hl, rfl⟩ := List.mem_map.mp hr
  show amOk (l.map some) k = true
  rw [← lk l hl]
  exact amOk_of (nn l hl)
theorem tops_one_sum {G : Nat} {qs : List Rat} (G0 : 0 < G) (d : ∀ q ∈ qs, q.den ∣ G) (one : rsum qs = 1) : (topsOf G qs).sum = G := by
  have h := tops_sum G0 qs d
  rw [one] at h
  have := divInt_cross (by omega) h
  have e1 : (1 : Rat).num = 1 := rfl
  have e2 : (1 : Rat).den = 1 := rfl
  rw [e1, e2] at this
  omega
theorem tops_nn {G : Nat} {qs : List Rat} (nn : ∀ q ∈ qs, 0 ≤ q) : ∀ x ∈ topsOf G qs, 0 ≤ x := fun x hx => by
  obtain ⟨q, hq, rfl⟩ := List.mem_map.mp hx
  exact Int.mul_nonneg (Rat.num_nonneg.mpr (nn q hq)) (Int.natCast_nonneg _)
theorem gOf_same {as bs : List Int} {G : Nat} (G0 : 0 < G) (h1 : as.sum = G) (h2 : bs.sum = G) : gOf as bs = G := by
  unfold gOf
  rw [h1, h2, Int.toNat_natCast, Nat.gcd_self, Nat.div_self G0, Nat.mul_one]
theorem xOf_same {as : List Int} {G : Nat} (G0 : 0 < G) (h1 : as.sum = G) : xOf as G = fun i => as.getD i 0 := funext fun i => by
  unfold xOf
  rw [h1, Int.ediv_self (by omega), Int.mul_one]
theorem wgh_plan {css pss : List (List Rat)} {k b S : Nat} (C : CostG css k b) (N : PlanG pss S) (k12 : k ≤ 12) (c12 : css.length ≤ 12) (p12 : pss.length ≤ 12) : Wgh css.flatten pss.flatten 21 35 := by
  have l1 : css.flatten.length ≤ 144 := Nat.le_trans (flat_len (k := 12) fun qs h => by rw [(C.row qs h).1]; exact k12) (Nat.mul_le_mul_right 12 c12)
  have l2 : pss.flatten.length ≤ 144 := Nat.le_trans (flat_len (k := 12) fun qs h => (N.row qs h).1) (Nat.mul_le_mul_right 12 p12)
  have n1 : ∀ q ∈ css.flatten, Nice b 10000000000000000000000 q := fun q hq => by
    obtain ⟨r, hr, hq⟩ := mem_rows hq
    exact (C.row r hr).2 q hq
  have n2 : ∀ q ∈ pss.flatten, Nice S 1 q := fun q hq => by
    obtain ⟨r, hr, hq⟩ := mem_rows hq
    exact (N.row r hr).2 q hq
  have C0 := C.b0
  have C1 := C.b1
  have N0 := N.s0
  have N1 := N.s1
  have e1 := Nat.le_of_dvd C0 (lcm_of css.flatten 1 (Nat.one_dvd _) fun q hq => (n1 q hq).den)
  have e2 := Nat.le_of_dvd N0 (lcm_of pss.flatten 1 (Nat.one_dvd _) fun q hq => (n2 q hq).den)
  refine ⟨by omega, by omega, by decide, by decide, by decide, fun q hq => ?_, fun q hq => ?_, by omega, by omega⟩
  · exact ((n1 q hq).bd (n := 100) C0 (by omega) (by omega)).mono (by decide)
  · exact ((n2 q hq).bd (n := 40) N0 (by omega) (by omega)).mono (by decide)
theorem plan_nice {C : Wy → Int} {M N G : Nat} {as : List Int} {Y : Nat → Int} {u : List (Wy × Int)} {Pf Qf : Nat → Int} (W : Hauled C M N (fun i => as.getD i 0) Y u Pf Qf) (n1 : ∀ a ∈ as, 0 ≤ a) (s1 : as.sum = G) (G0 : 0 < G) (G1 : G ≤ 10000000000) (N12 : N ≤ 12) : PlanG (planOf M N G u) G := by
  refine ⟨G0, G1, fun qs hq => ?_⟩
  obtain ⟨i, hi, rfl⟩ := List.mem_map.mp hq
  have hi := List.mem_range.mp hi
  refine ⟨by rw [List.length_map, List.length_range]; exact N12, fun q hq => ?_⟩
  obtain ⟨j, hj, rfl⟩ := List.mem_map.mp hq
  refine Nice.of G0 (Nat.dvd_refl _) ?_
  have h0 := W.nn (i, j)
  have h1 : valOf u (i, j) ≤ as.getD i 0 := by
    rw [← W.row i hi]
    have e := vsum_one (List.nodup_range (n := N)) (a := j) fun c => valOf u (i, c)
    rw [if_pos hj] at e
    rw [← e]
    refine vsum_le fun c _ => ?_
    split
    · exact Int.le_refl _
    · exact W.nn _
  have h2 : as.getD i 0 ≤ G := by
    rw [List.getD_eq_getElem?_getD]
    cases hz : as[i]? with
    | none => simp
    | some a =>
      rw [← s1]
      exact sum_geA n1 a (List.mem_of_getElem? hz)
  omega
set_option maxHeartbeats 1600000 in
theorem ok_p_cheapest (T : Txt K mg) : FnOk P w K mg base CX0 6 T.f_p_cheapest T.d_p_cheapest ["costs", "first", "second"] (spCheapest T.c_Share) := by
  refine T.F_p_cheapest.ok sc_p_cheapest (fun vs H Q E h => ?_) (fun cdv A outer s0 H vs Q E hr h => ?_)
  · obtain ⟨cv, fv, gv, css, ps, qs, b, rfl, _⟩ := h
    rfl
  · obtain ⟨cv, fv, gv, css, ps, qs, b, rfl, hc, hf, hg, ok1, ok2, m1, m12, k1, k12, lc, cn, nn, q⟩ := h
    refine ⟨_, (pss_cons (ps_if (pt_not (pt_val (pe_call (ok_p_is_heap T) (hr.mono (by decide)) (by rfl) T.g_p_is_heap T.F_p_is_heap.kp T.b_p_is_heap .nil pass0 (pa_cons (pv 1) pa_nil))))
  (pss_one ps_never)
  pss_nil)
 (pss_cons (ps_if (pt_not (pt_val (pe_call (ok_p_is_heap T) (hr.mono (by decide)) (by rfl) T.g_p_is_heap T.F_p_is_heap.kp T.b_p_is_heap .nil pass0 (pa_cons (pv 2) pa_nil))))
  (pss_one ps_never)
  pss_nil)
 (pss_cons (ps_if (pt_not (pt_val (pe_call (ok_p_is_table T) (hr.mono (by decide)) (by rfl) T.g_p_is_table T.F_p_is_table.kp T.b_p_is_table .nil pass0 (pa_cons (pv 0) (pa_cons (pe_callB call_len_seq (by rfl) T.z_len (by decide +kernel) (pa_cons (pv 1) pa_nil)) (pa_cons (pe_callB call_len_seq (by rfl) T.z_len (by decide +kernel) (pa_cons (pv 2) pa_nil)) pa_nil))))))
  (pss_one ps_never)
  pss_nil)
 (pss_cons (ps_set (i := 3) sc_p_cheapest.nd rfl (.inr rfl) (pe_call (ok_p_common_bottom T) (hr.mono (by decide)) (by rfl) T.g_p_common_bottom T.F_p_common_bottom.kp T.b_p_common_bottom .nil pass0 (pa_cons (pe_call (ok_p_joined T) (hr.mono (by decide)) (by rfl) T.g_p_joined T.F_p_joined.kp T.b_p_joined .nil pass0 (pa_cons (pv 0) pa_nil)) pa_nil)))
 (pss_cons (ps_set (i := 4) sc_p_cheapest.nd rfl (.inl rfl) (pe_call (ok_p_common_bottom T) (hr.mono (by decide)) (by rfl) T.g_p_common_bottom T.F_p_common_bottom.kp T.b_p_common_bottom .nil pass0 (pa_cons (pe_op op_cat (pv 1) (pv 2)) pa_nil)))
 (pss_cons (ps_setLc (i := 5) (own := [("row", 10)]) (g := (gName 10)) (tt := tYes) (by rfl) sc_p_cheapest.nd rfl rfl (sw_true rfl rfl rfl (by decide +kernel)) (pi_list (pv 0)) (blkOk_by (own := [("row", 10)]) (N := ["costs", "first", "second", "unit", "grain", "whole_costs", "haul", "plan", "here", "there", "row"]) (sc := defScope s_p_cheapest) (by decide +kernel)) (fun _ _ _ _ _ => by exact (pg_name (i := 10) sc_p_cheapest.nd rfl (.inl rfl))) (fun _ _ _ _ _ => by exact pts_nil) (fun _ _ _ _ _ => by exact (pe_call (ok_p_tops_over T) (hr.mono (by decide)) (by rfl) T.g_p_tops_over T.F_p_tops_over.kp T.b_p_tops_over .nil pass0 (pa_cons (pv 3) (pa_cons (pv 10) pa_nil)))))
 (pss_cons (ps_set (i := 6) sc_p_cheapest.nd rfl (.inl rfl) (pe_make T.M_Haul (ok_m_Haul_init T) (hr.mono (by decide)) (by rfl) T.g_Haul T.b_m_Haul_init .nil pass0 (pa_cons (pv 5) (pa_cons (pe_call (ok_p_tops_over T) (hr.mono (by decide)) (by rfl) T.g_p_tops_over T.F_p_tops_over.kp T.b_p_tops_over .nil pass0 (pa_cons (pv 4) (pa_cons (pv 1) pa_nil))) (pa_cons (pe_call (ok_p_tops_over T) (hr.mono (by decide)) (by rfl) T.g_p_tops_over T.F_p_tops_over.kp T.b_p_tops_over .nil pass0 (pa_cons (pv 4) (pa_cons (pv 2) pa_nil))) pa_nil)))))
 (pss_cons (ps_set (i := 7) sc_p_cheapest.nd rfl (.inl rfl) (pe_call (ok_p_shares_over T) (hr.mono (by decide)) (by rfl) T.g_p_shares_over T.F_p_shares_over.kp T.b_p_shares_over .nil pass0 (pa_cons (pe_fld (pv 6) rfl) (pa_cons (pe_meth (pv 6) T.cl_Haul T.h_m_Haul_plan (ok_m_Haul_plan T) (hr.mono (by decide)) T.b_m_Haul_plan .nil pass0 (pa_cons (pe_callB call_len_seq (by rfl) T.z_len (by decide +kernel) (pa_cons (pv 1) pa_nil)) (pa_cons (pe_callB call_len_seq (by rfl) T.z_len (by decide +kernel) (pa_cons (pv 2) pa_nil)) pa_nil))) pa_nil))))
 (pss_cons (ps_asg (pe_call (ok_p_shares_over2 T) (hr.mono (by decide)) (by rfl) T.g_p_shares_over T.F_p_shares_over.kp T.b_p_shares_over .nil pass0 (pa_cons (pv 3) (pa_cons (pe_meth (pv 6) T.cl_Haul T.h_m_Haul_prices (ok_m_Haul_prices T) (hr.mono (by decide)) T.b_m_Haul_prices .nil pass0 (pa_cons (pv 5) pa_nil)) pa_nil))) (pg_lst (by rfl) (pgs_cons (pg_name (i := 8) sc_p_cheapest.nd rfl (.inl rfl)) (pgs_cons (pg_name (i := 9) sc_p_cheapest.nd rfl (.inl rfl)) pgs_nil))))
 (pss_one (ps_ret (pe_tup (pa_cons (pe_call (ok_p_cost_of T) (hr.mono (by decide)) (by rfl) T.g_p_cost_of T.F_p_cost_of.kp T.b_p_cost_of .nil pass0 (pa_cons (pv 0) (pa_cons (pv 7) pa_nil))) (pa_cons (pv 7) (pa_cons (pe_tup (pa_cons (pv 8) (pa_cons (pv 9) pa_nil))) pa_nil))))))))))))))), ?_⟩
    obtain ⟨pc, cs, rfl, ec, ac⟩ := id hc
    obtain ⟨pf, fs, rfl, ef, af⟩ := id hf
    obtain ⟨pg, gs, rfl, eg, ag⟩ := id hg
    refine ⟨_, rfl, .ref pf, ps, rfl, hf, ok1, m1, m12, fun H1 s1 => ⟨true, rfl, iteF ?_⟩⟩
    refine ⟨_, rfl, .ref pg, qs, rfl, hg.mono s1, ok2, k1, k12, fun H2 s2 => ⟨true, rfl, iteF ?_⟩⟩
    have s02 := s1.trans s2
    have lf := af.1
    have lg := ag.1
    have hc2 := tbl_mono hc s02
    refine ⟨_, rfl, _, rfl, pf, fs, rfl, .inl (SqL.of (s02 _ _ ef)), _, rfl, pg, gs, rfl, .inl (SqL.of (s02 _ _ eg)), .ref pc, fs.length, gs.length, rfl, .inr ⟨_, table_of hc2, by rw [List.length_map]; omega, fun r hr its e => ?_, fun H3 s3 => ⟨true, congrArg V.bl ?_, iteF ?_⟩⟩⟩
    · obtain ⟨l, hl, rfl⟩ := List.mem_map.mp hr
      cases e
      rw [List.length_map, (cn.row l hl).1]
      omega
    · rw [lf, lg]
      exact table_ok lc (fun l hl => (cn.row l hl).1) nn
    have s03 := s02.trans s3
    have hc3 := tbl_mono hc s03
    have f12 : css.length ≤ 12 := by omega
    have r12 : ∀ l ∈ css, l.length ≤ 12 := fun l hl => by rw [(cn.row l hl).1]; exact k12
    refine ⟨_, rfl, .ref pc, css, rfl, hc3, f12, r12, fun H4 j s4 hj => ?_⟩
    have nU : ∀ x ∈ css.flatten, Nice b 10000000000000000000000 x := fun x hx => by
      obtain ⟨l, hl, hx⟩ := mem_rows hx
      exact (cn.row l hl).2 x hx
    have b0 := cn.b0
    have b1 := cn.b1
    obtain ⟨U, eU⟩ : ∃ U, U = lcmOn 1 css.flatten := ⟨_, rfl⟩
    have U0 : 0 < U := by rw [eU]; exact lcmOn_pos _ _ (by decide)
    have Ub : U ≤ 1000000 := by
      have : U ∣ b := by rw [eU]; exact lcm_of _ _ (Nat.one_dvd _) fun x hx => (nU x hx).den
      have := Nat.le_of_dvd b0 this
      omega
    have big : ∀ n : Nat, n ≤ 10000000000 → n < 2 ^ 8001 := fun n hn => Nat.lt_of_le_of_lt hn (Nat.lt_of_lt_of_le (by decide : 10000000000 < 2 ^ 34) (Nat.pow_le_pow_right (by decide) (by decide)))
    refine ⟨_, _, rfl, hj, by rw [← eU]; exact big _ (by omega), ?_⟩
    rw [← eU]
    have s04 := s03.trans s4
    refine ⟨_, rfl, _, rfl, pf, pg, fs, gs, rfl, rfl, s04 _ _ ef, s04 _ _ eg, Nat.le_of_lt (small1000 (by omega)), fun p5 np5 => ?_⟩
    have x5 := same_upd (o := .lst (fs ++ gs)) np5
    have e5 := @upd_same H4 p5 (.lst (fs ++ gs))
    generalize upd H4 p5 (.lst (fs ++ gs)) = H5 at *
    have s05 := s04.trans x5
    have ha5 : IsShares T.c_Share H5 (.ref p5) (ps ++ qs) := ⟨p5, _, rfl, e5, (af.imp fun _ _ h => h.mono s05).append (ag.imp fun _ _ h => h.mono s05)⟩
    obtain ⟨S1, a0, a1, aS⟩ := ok1.den
    obtain ⟨S2, c0, c1, cS⟩ := ok2.den
    obtain ⟨G, eG⟩ : ∃ G, G = lcmOn 1 (ps ++ qs) := ⟨_, rfl⟩
    have G0 : 0 < G := by rw [eG]; exact lcmOn_pos _ _ (by decide)
    have Gb : G ≤ 10000000000 := by
      have : G ∣ S1 * S2 := by
        rw [eG]
        refine lcm_of _ _ (Nat.one_dvd _) fun x hx => ?_
        rcases List.mem_append.mp hx with h | h
        · exact Nat.dvd_trans (aS x h) (Nat.dvd_mul_right _ _)
        · exact Nat.dvd_trans (cS x h) (Nat.dvd_mul_left _ _)
      have h1 := Nat.le_of_dvd (Nat.mul_pos a0 c0) this
      have h2 : S1 * S2 ≤ 100000 * 100000 := Nat.mul_le_mul a1 c1
      omega
    refine ⟨_, _, rfl, ha5, by rw [← eG]; exact big _ Gb, ?_⟩
    rw [← eG]
    have ec5 := s05 _ _ ec
    have ac5 : AllAre (IsShares T.c_Share H5) cs css := ac.imp fun _ _ h => h.mono s05
    have lcs := ac.1
    have U9 : U < 2 ^ 9000 := Nat.lt_trans (big U (by omega)) (Nat.pow_lt_pow_right (by decide) (by decide))
    have G9 : G < 2 ^ 9000 := Nat.lt_trans (big G Gb) (Nat.pow_lt_pow_right (by decide) (by decide))
    refine ⟨_, rfl, pc, rfl, ⟨_, SqL.of ec5⟩, fun D nD => lc_all (K := K) (a := pc) (xs := cs) (fun i y F => ∃ ra l, y = .ref ra ∧ css[i]? = some l ∧ F ra = some (.lst ((topsOf U l).map V.int))) (fun _ _ _ _ s ⟨ra, l, h1, h2, h3⟩ => ⟨ra, l, h1, h2, s _ _ h3⟩) nD (SqL.of ec5) (by omega) (fun i x H6 kk hi s6 eD hk => ?_) (fun H6 ys s6 e6 l6 r6 => ?_)⟩
    · obtain ⟨l, hl, hx⟩ := ac5.at hi
      have lin := List.mem_of_getElem? hl
      refine ⟨rfl, _, rfl, _, rfl, _, U, l, 100, rfl, hx.mono (s6.trans hid_same), fun x hx => ((cn.row l lin).2 x hx).bd b0 (by omega) (by omega), by have := r12 l lin; omega, by decide, by decide, U9, fun H7 r nr s7 er => ?_⟩
      refine hk _ _ s7 ⟨r, l, rfl, hl, ?_⟩
      obtain ⟨zs, hzs⟩ := eD
      have rD : r ≠ D := fun z => by rw [z, hzs] at nr; cases nr
      rw [hid_ne rD]
      exact er
    · have s56 := s6.trans hid_same
      have s06 := s05.trans s56
      have hC6 : Costs H6 (.ref D) ps.length qs.length (wholeC U css) := ⟨D, ys, rfl, e6, by omega, fun i hi => by
        have e : ys[i]? = some (ys[i]'(by omega)) := List.getElem?_eq_getElem _
        obtain ⟨ra, l, h1, h2, h3⟩ := r6 i _ e
        refine ⟨ra, by rw [e, h1], ?_⟩
        rw [hid_same _ _ h3, tops_row h2 (cn.row l (List.mem_of_getElem? h2)).1]⟩
      clear r6 e6 s6
      -- the haul
      have d1 : ∀ x ∈ ps, x.den ∣ G := fun x hx => by rw [eG]; exact den_dvd_lcm _ _ _ (List.mem_append_left _ hx)
      have d2 : ∀ x ∈ qs, x.den ∣ G := fun x hx => by rw [eG]; exact den_dvd_lcm _ _ _ (List.mem_append_right _ hx)
      have t1 := tops_one_sum G0 d1 ok1.one
      have t2 := tops_one_sum G0 d2 ok2.one
      have n1 := tops_nn (G := G) ok1.nn
      have n2 := tops_nn (G := G) ok2.nn
      have g1 := gOf_same G0 t1 t2
      have y1 := xOf_same G0 t1
      have y2 := xOf_same G0 t2
      have la : (topsOf G ps).length = ps.length := List.length_map _
      have lb : (topsOf G qs).length = qs.length := List.length_map _
      have C0 : ∀ r c, 0 ≤ wholeC U css (r, c) := fun r c => by
        refine Int.mul_nonneg (Rat.num_nonneg.mpr ?_) (Int.natCast_nonneg _)
        unfold at0
        rw [List.getD_eq_getElem?_getD, List.getD_eq_getElem?_getD]
        cases e1 : css[r]? with
        | none => simp
        | some l =>
          simp only [Option.getD_some]
          cases e2 : l[c]? with
          | none => exact Rat.le_refl
          | some z => exact nn l (List.mem_of_getElem? e1) z (List.mem_of_getElem? e2)
      refine ⟨_, rfl, _, rfl, _, rfl, .ref pf, G, ps, 21, rfl, hf.mono s06, heap_bd21 ok1, by omega, by decide, by decide, G9, fun H7 r1 nr1 s7 e7 => ?_⟩
      refine ⟨_, rfl, _, rfl, .ref pg, G, qs, 21, rfl, (hg.mono s06).mono s7, heap_bd21 ok2, by omega, by decide, by decide, G9, fun H8 r2 nr2 s8 e8 => ?_⟩
      intro x dx nx ndx ne
      have bigN : ∀ n : Nat, n ≤ 10000000000 → n < 2 ^ 8000 := fun n hn => Nat.lt_of_le_of_lt hn (Nat.lt_of_lt_of_le (by decide : 10000000000 < 2 ^ 34) (Nat.pow_le_pow_right (by decide) (by decide)))
      have big8 : (G : Int) < 2 ^ 8000 := by
        have := bigN G Gb
        omega
      have s9 : Same H8 (upd (upd H8 dx (.own x)) x (.ins T.c_Haul dx [])) := (same_upd ndx).trans (same_upd ((upd_ne (fun z => ne z.symm)).trans nx))
      refine ⟨x, dx, r1, r2, .ref D, wholeC U css, topsOf G ps, topsOf G qs, rfl, upd_same, ?_, s9 _ _ (s8 _ _ e7), s9 _ _ e8, by omega, by omega, n1, n2, by omega, by omega, by rw [t1]; exact big8, by rw [t2]; exact big8, fun r _ c _ => C0 r c, fun H9 tr mv t last k9 iH et ntr em nmv hl Nd0 Tr ripe => ⟨rfl, ?_⟩⟩
      · rw [la, lb]
        exact ((hC6.mono s7).mono s8).mono s9
      · rw [g1] at iH Tr Nd0
        rw [y1, y2] at Tr Nd0
        have s89 : Same H8 H9 := fun c o hc => k9 c o (s9 _ _ hc) fun z => by (rw [z, nx] at hc; cases hc)
        have s09 := ((s06.trans s7).trans s8).trans s89
        have s69 := (s7.trans s8).trans s89
        obtain ⟨dh, fh, hx, hgr, htr, hmv, hpl, hpr, _, _, hfl⟩ := id iH
        have un := rnd_nodup (filled (topsOf G ps)).length Tr.nd
        refine ⟨_, rfl, x, T.c_Haul, dh, fh, _, rfl, hx, T.cl_Haul, T.n_Haul_grain, hgr, ?_⟩
        refine ⟨_, rfl, x, dh, fh, rfl, hx, hpl, _, rfl, pf, fs, rfl, .inl (SqL.of (s09 _ _ ef)), _, rfl, pg, gs, rfl, .inl (SqL.of (s09 _ _ eg)), x, tr, mv, G, fs.length, gs.length, _, rfl, iH, em, un, by omega, by omega, fun H10 p10 s10 hC10 => ?_⟩
        refine ⟨.ref p10, G, fs.length, gs.length, _, rfl, by omega, bigN G Gb, by omega, by omega, hC10, fun H11 pl rys npl s11 epl fresh all => ?_⟩
        rw [lf, lg] at all
        have s911 := s10.trans s11
        have s011 := s09.trans s911
        -- the prices
        refine ⟨_, rfl, _, rfl, x, dh, fh, rfl, s911 _ _ hx, hpr, _, rfl, x, tr, mv, G, .ref D, ps.length, qs.length, wholeC U css, filled (topsOf G ps), filled (topsOf G qs), _, t, rfl, ⟨dh, fh, s911 _ _ hx, hgr, htr, hmv, hpl, hpr, by assumption, by assumption, hfl⟩, s911 _ _ et, (hC6.mono s69).mono s911, by omega, by omega, Tr, Nd0, fld_nodup _ _, fld_nodup _ _, filled_ne n1 (by omega), filled_ne n2 (by omega), Nat.le_trans (fld_len _ _) (by omega), Nat.le_trans (fld_len _ _) (by omega), fun r hr => ?_, fun c hc => ?_, fun H12 pp ph pt Pf Qf hr' root h s12 epp eph ept hT pm jr jc ir A => ?_⟩
        · have := (in_filled.mp hr).1
          omega
        · have := (in_filled.mp hc).1
          omega
        rw [← la, ← lb] at A
        rw [← y1, ← y2] at Tr Nd0
        have W := hauled n1 n2 (by omega) (by omega) Nd0 Tr ripe hT pm jr jc ir A
        rw [y1, y2, la, lb] at W
        generalize eu : rnd (filled (topsOf G ps)).length t = u at *
        have cB : ∀ r, r < ps.length → ∀ c, c < qs.length → wholeC U css (r, c) ≤ 10000000000000000000000 * U := fun r hr c hc => by
          have er : css[r]? = some (css[r]'(by omega)) := List.getElem?_eq_getElem _
          have lin := List.mem_of_getElem? er
          have lr := (cn.row _ lin).1
          have e2 : (css[r]'(by omega))[c]? = some ((css[r]'(by omega))[c]'(by omega)) := List.getElem?_eq_getElem _
          have nz := (cn.row _ lin).2 _ (List.mem_of_getElem? e2)
          have dz : ((css[r]'(by omega))[c]'(by omega)).den ∣ U := by
            rw [eU]
            exact den_dvd_lcm _ _ _ (List.mem_flatten.mpr ⟨_, lin, List.mem_of_getElem? e2⟩)
          unfold wholeC
          rw [show css.getD r [] = css[r]'(by omega) by rw [List.getD_eq_getElem?_getD, er]; rfl, at0_of e2]
          generalize (css[r]'(by omega))[c]'(by omega) = z at *
          have h1 : z.num ≤ 10000000000000000000000 * (z.den : Int) := by
            have := nz.abs
            omega
          have h2 : (z.den : Int) * ((U / z.den : Nat) : Int) = U := by exact_mod_cast Nat.mul_div_cancel' dz
          have h3 : z.num * ((U / z.den : Nat) : Int) ≤ 10000000000000000000000 * (z.den : Int) * ((U / z.den : Nat) : Int) := Int.mul_le_mul_of_nonneg_right h1 (Int.natCast_nonneg _)
          rw [Int.mul_assoc, h2] at h3
          exact h3
        have hl : h.length ≤ 60 := by
          have h1 := pm.length_eq
          have h2 := Tr.len
          have h3 : (plc (filled (topsOf G ps)) (filled (topsOf G qs))).length ≤ 60 := by
            have f1 := fld_len (topsOf G ps) (topsOf G ps).length
            have f2 := fld_len (topsOf G qs) (topsOf G qs).length
            unfold plc
            rw [List.length_append, List.length_map, List.length_map]
            unfold filled
            omega
          unfold wys at h1
          rw [List.length_map, List.length_map] at h1
          omega
        have B0 : (0 : Int) ≤ 10000000000000000000000 * U := by omega
        have bdP : (∀ r, r < ps.length → -(62 * (10000000000000000000000 * U) : Int) ≤ Pf r ∧ Pf r ≤ 62 * (10000000000000000000000 * U)) ∧ ∀ c, c < qs.length → -(62 * (10000000000000000000000 * U) : Int) ≤ Qf c ∧ Qf c ≤ 62 * (10000000000000000000000 * U) := by
          have rM : ∀ r ∈ hr', r < (topsOf G ps).length := fun r hr => (in_filled.mp ((ir r).mp hr)).1
          have bd1 := pr_bd (C := wholeC U css) B0 (h := h) fun w hw => by
            obtain ⟨p, hp, rfl⟩ := List.mem_map.mp (pm.mem_iff.mpr hw)
            obtain ⟨e1, e2⟩ := Tr.feas.1 p hp
            have h1 := (in_filled.mp (row_plc.mp e1)).1
            have h2 := (in_filled.mp (col_plc.mp e2)).1
            have h4 : wholeC U css p.1 ≤ 10000000000000000000000 * U := cB p.1.1 (by omega) p.1.2 (by omega)
            have h5 : 0 ≤ wholeC U css p.1 := C0 p.1.1 p.1.2
            exact ⟨by omega, h4⟩
          have D1 : (h.length : Int) * (10000000000000000000000 * U) ≤ 60 * (10000000000000000000000 * U) := Int.mul_le_mul_of_nonneg_right (by omega) B0
          have k := A.bd (B := 10000000000000000000000 * U) (D := 60 * (10000000000000000000000 * U)) (fun r _ => by have := bd1 (.row r); omega) (fun r hr c hc => ⟨by have := C0 r c; omega, cB r (by omega) c (by omega)⟩) rM
          refine ⟨fun r hr => ?_, fun c hc => ?_⟩
          · have := k.1 r (by omega)
            omega
          · have := k.2 c (by omega)
            omega
        have s1112 := s011.trans s12
        refine ⟨pp, ph, pt, U, ps.length, qs.length, Pf, Qf, rfl, U0, bigN U (by omega), by omega, by omega, epp, eph, ept, fun H13 p13 x' y' nx' ny' s13 e13 hsx hsy => ?_⟩
        have s013 := s1112.trans s13
        refine ⟨p13, _, rfl, SqL.of e13, rfl, _, _, rfl, _, _, rfl, rfl, ?_⟩
        have Np := plan_nice W n1 t1 G0 Gb k12
        have lpl : (planOf ps.length qs.length G u).length = ps.length := by unfold planOf; rw [List.length_map, List.length_range]
        have epl13 := s13 _ _ (s12 _ _ epl)
        have all13 : AllAre (IsShares T.c_Share H13) rys (planOf ps.length qs.length G u) := all.imp fun _ _ h => (h.mono s12).mono s13
        refine ⟨_, rfl, _, rfl, .ref pc, .ref pl, css, planOf ps.length qs.length G u, 21, 35, rfl, tbl_mono hc s013, ⟨pl, rys, rfl, epl13, all13⟩, ⟨f12, r12⟩, ⟨by omega, fun l hl => (Np.row l hl).1⟩, wgh_plan cn Np k12 f12 (by omega), fun H14 c s14 hcost => ?_⟩
        refine ⟨_, rfl, _, rfl, _, rfl, by show 2 ≤ sizeLine; decide, fun pr npr => ⟨by show 3 ≤ sizeLine; decide, fun r nr => ?_⟩⟩
        have x1 := same_upd (o := .tup [.ref x', .ref y']) npr
        have x2 := same_upd (o := .tup [c, .ref pl, .ref pr]) nr
        have sE := s14.trans (x1.trans x2)
        refine q _ r c pl x' y' pr u Pf Qf rys G U (s013.trans sE) upd_same (x2 _ _ upd_same) (none_back2 s1112 ny') (sE _ _ epl13) (fun z hz => ?_) (all13.imp fun _ _ h => h.mono sE) (hsx.mono sE) (hsy.mono sE) (hcost.mono (x1.trans x2)) eU eG W bdP.1 bdP.2
        obtain ⟨a, h1, h2⟩ := fresh z hz
        exact ⟨a, h1, none_back2 (s09.trans s10) h2⟩
end

end Fb

namespace Fb
open PySem PySem.Spec PyProof.Rows L2
section
/-! ### the plan and the prices, in shares -/
def frac (n : Nat) (f : Nat → Int) (U : Nat) : List Rat := (List.range n).map fun i => Rat.divInt (f i) U
theorem rsum_frac (n : Nat) (f : Nat → Int) (U : Nat) : rsum (frac n f U) = Rat.divInt (vsum (List.range n) f) U := by
  have e : frac n f U = ((List.range n).map f).map fun x => Rat.divInt x U := by unfold frac; rw [List.map_map]; rfl
  rw [e, rsum_div, ← isum_sum]
  rfl
theorem zip_range {α β γ : Type} (f : Nat → α) (g : Nat → β) (op : α → β → γ) : ∀ n, List.zipWith op ((List.range n).map f) ((List.range n).map g) = (List.range n).map fun i => op (f i) (g i) := fun n => by
  rw [List.zipWith_map_left, List.zipWith_map_right, List.zipWith_self]
theorem dot_frac (n : Nat) (f g : Nat → Int) (U G : Nat) : dot (frac n f U) (frac n g G) = Rat.divInt (vsum (List.range n) fun i => f i * g i) (U * G : Nat) := by
  rw [← rsum_frac]
  unfold dot frac
  rw [zip_range]
  congr 1
  refine List.map_congr_left fun i _ => ?_
  rw [Rat.divInt_mul_divInt]
  rfl
theorem tops_back {G : Nat} (G0 : 0 < G) {ps : List Rat} (d : ∀ q ∈ ps, q.den ∣ G) : ps = frac ps.length (fun i => (topsOf G ps).getD i 0) G := by
  refine List.ext_getElem? fun i => ?_
  unfold frac
  by_cases h : i < ps.length
  · rw [List.getElem?_map, List.getElem?_range h, List.getElem?_eq_getElem h]
    show some (ps[i]) = some (Rat.divInt ((topsOf G ps).getD i 0) G)
    have e : (topsOf G ps).getD i 0 = (ps[i]).num * ((G / (ps[i]).den : Nat) : Int) := by
      unfold topsOf
      rw [List.getD_eq_getElem?_getD, List.getElem?_map, List.getElem?_eq_getElem h]
      rfl
    rw [e, tops_one G0 (d _ (List.getElem_mem h))]
  · rw [List.getElem?_eq_none (by omega), List.getElem?_eq_none (by rw [List.length_map, List.length_range]; omega)]
theorem costs_back {U : Nat} (U0 : 0 < U) {css : List (List Rat)} {N : Nat} (l : ∀ r ∈ css, r.length = N) (d : ∀ r ∈ css, ∀ q ∈ r, q.den ∣ U) : css = (List.range css.length).map fun i => frac N (fun j => wholeC U css (i, j)) U := by
  refine List.ext_getElem? fun i => ?_
  by_cases h : i < css.length
  · rw [List.getElem?_map, List.getElem?_range h, List.getElem?_eq_getElem h]
    show some _ = some _
    congr 1
    have er : css.getD i [] = css[i] := by rw [List.getD_eq_getElem?_getD, List.getElem?_eq_getElem h]; rfl
    have lin := List.getElem_mem h
    have k := tops_back U0 (d _ lin)
    rw [l _ lin] at k
    refine k.trans ?_
    unfold frac
    refine List.map_congr_left fun j hj => ?_
    have hj := List.mem_range.mp hj
    have jl : j < (css[i]).length := by rw [l _ lin]; exact hj
    congr 1
    unfold topsOf wholeC
    dsimp only
    rw [er, at0_of (List.getElem?_eq_getElem jl), List.getD_eq_getElem?_getD, List.getElem?_map, List.getElem?_eq_getElem jl]
    rfl
  · rw [List.getElem?_eq_none (by omega), List.getElem?_eq_none (by rw [List.length_map, List.length_range]; omega)]
/-- what a plan costs in whole numbers -/
def costI (C : Wy → Int) (M N : Nat) (u : List (Wy × Int)) : Int := vsum (List.range M) fun r => vsum (List.range N) fun c => C (r, c) * valOf u (r, c)
theorem dot_cost {U G : Nat} (U0 : 0 < U) {css : List (List Rat)} {N : Nat} (l : ∀ r ∈ css, r.length = N) (d : ∀ r ∈ css, ∀ q ∈ r, q.den ∣ U) (u : List (Wy × Int)) : dot css.flatten (planOf css.length N G u).flatten = Rat.divInt (costI (wholeC U css) css.length N u) (U * G : Nat) := by
  have lp : (planOf css.length N G u).length = css.length := by unfold planOf; rw [List.length_map, List.length_range]
  rw [dot_rows lp.symm fun i c p h1 h2 => ?_]
  · have e := costs_back U0 l d
    have e2 : List.zipWith dot css (planOf css.length N G u) = frac css.length (fun i => vsum (List.range N) fun j => wholeC U css (i, j) * valOf u (i, j)) (U * G) := by
      conv => lhs; arg 2; rw [e]
      unfold planOf
      rw [zip_range]
      unfold frac
      refine List.map_congr_left fun i _ => ?_
      exact dot_frac N _ _ U G
    rw [e2, rsum_frac]
    rfl
  · rw [l c (List.mem_of_getElem? h1)]
    obtain ⟨i', _, e⟩ := List.mem_map.mp (List.mem_of_getElem? h2)
    rw [← e, List.length_map, List.length_range]
/-- no prices bring more than a plan costs -/
theorem Hauled.le {C : Wy → Int} {M N : Nat} {X Y : Nat → Int} {u u' : List (Wy × Int)} {P Q P' Q' : Nat → Int} (W : Hauled C M N X Y u P Q) (W' : Hauled C M N X Y u' P' Q') : costI C M N u ≤ costI C M N u' := by
  have e : costI C M N u = vsum (List.range M) fun r => vsum (List.range N) fun c => (P r - Q c) * valOf u' (r, c) := by
    have h1 : (fun r => vsum (List.range N) fun c => (P r - Q c) * valOf u' (r, c)) = fun r => P r * vsum (List.range N) (fun c => valOf u' (r, c)) + vsum (List.range N) fun c => -(Q c * valOf u' (r, c)) := funext fun r => by
      rw [← vsum_mul, ← vsum_add]
      exact vsum_congr fun c _ => by rw [Int.sub_mul]; omega
    have h2 : vsum (List.range M) (fun r => P r * vsum (List.range N) fun c => valOf u' (r, c)) = vsum (List.range M) fun r => X r * P r := vsum_congr fun r hr => by rw [W'.row r (List.mem_range.mp hr), Int.mul_comm]
    have h3 : vsum (List.range M) (fun r => vsum (List.range N) fun c => -(Q c * valOf u' (r, c))) = -1 * vsum (List.range N) fun c => Y c * Q c := by
      rw [vsum_swap, ← vsum_mul]
      refine vsum_congr fun c hc => ?_
      rw [← W'.col c (List.mem_range.mp hc), Int.mul_comm _ (Q c), ← vsum_mul, ← vsum_mul]
      exact vsum_congr fun r _ => by omega
    rw [h1, vsum_add, h2, h3]
    have := W.cost
    unfold costI
    omega
  rw [e]
  refine vsum_le fun r hr => vsum_le fun c hc => ?_
  exact Int.mul_le_mul_of_nonneg_right (W.pq r (List.mem_range.mp hr) c (List.mem_range.mp hc)) (W'.nn _)
theorem Hauled.same {C : Wy → Int} {M N : Nat} {X Y : Nat → Int} {u u' : List (Wy × Int)} {P Q P' Q' : Nat → Int} (W : Hauled C M N X Y u P Q) (W' : Hauled C M N X Y u' P' Q') : costI C M N u = costI C M N u' := Int.le_antisymm (W.le W') (W'.le W)
end

end Fb

namespace Fb
open PySem PySem.Spec PyProof.Rows L2
section
variable {P : Program} {w : World} {K : PySem.W.Frag} {mg : Str → Option Value} {base : Heap}
/-! ### the cheapest cost, told by a plan and by prices over all places -/
theorem rsumN_frac (n : Nat) (f : Nat → Int) (U : Nat) : rsumN n (fun i => Rat.divInt (f i) U) = Rat.divInt (vsum (List.range n) f) U := rsum_frac n f U
theorem at0_frac {n : Nat} {f : Nat → Int} {G j : Nat} (h : j < n) : at0 (frac n f G) j = Rat.divInt (f j) G := at0_of (by unfold frac; rw [List.getElem?_map, List.getElem?_range h]; rfl)
theorem divInt_nnK' {t : Int} {b : Nat} (h : 0 ≤ t) (b0 : 0 < b) : 0 ≤ Rat.divInt t (b : Int) := (Rat.divInt_nonneg_iff_of_pos_right (by omega)).mpr h
def cAt (css : List (List Rat)) (i j : Nat) : Rat := at0 (rowAt css i) j
theorem cAt_whole {css : List (List Rat)} {U i j : Nat} (U0 : 0 < U) (hi : i < css.length) {N : Nat} (l : ∀ r ∈ css, r.length = N) (hj : j < N) (d : ∀ r ∈ css, ∀ q ∈ r, q.den ∣ U) : cAt css i j = Rat.divInt (wholeC U css (i, j)) U := by
  have e := List.getElem?_eq_getElem hi
  have lin := List.getElem_mem hi
  have jl : j < (css[i]).length := by rw [l _ lin]; exact hj
  have er : css.getD i [] = css[i] := by rw [List.getD_eq_getElem?_getD, e]; rfl
  have ez := List.getElem?_eq_getElem jl
  unfold cAt wholeC
  dsimp only
  rw [rowAt_of e, er, at0_of ez, tops_one U0 (d _ lin _ (List.getElem_mem jl))]
theorem at0_tops {ps : List Rat} {G i : Nat} (G0 : 0 < G) (d : ∀ q ∈ ps, q.den ∣ G) (hi : i < ps.length) : at0 ps i = Rat.divInt ((topsOf G ps).getD i 0) G := by
  conv => lhs; arg 1; rw [tops_back G0 d]
  exact at0_frac hi
theorem Hauled.opt {css : List (List Rat)} {ps qs : List Rat} {U G : Nat} {u : List (Wy × Int)} {Pf Qf : Nat → Int} (U0 : 0 < U) (G0 : 0 < G) (lc : css.length = ps.length) (l : ∀ r ∈ css, r.length = qs.length) (dU : ∀ r ∈ css, ∀ q ∈ r, q.den ∣ U) (d1 : ∀ q ∈ ps, q.den ∣ G) (d2 : ∀ q ∈ qs, q.den ∣ G)
    (W : Hauled (wholeC U css) ps.length qs.length (fun i => (topsOf G ps).getD i 0) (fun i => (topsOf G qs).getD i 0) u Pf Qf) :
    Opt ps.length qs.length (cAt css) (at0 ps) (at0 qs) (at0 (pricesOf ps.length U Pf)) (at0 (pricesOf qs.length U Qf)) (Rat.divInt (costI (wholeC U css) ps.length qs.length u) (U * G : Nat)) := by
  have hp : ∀ i, i < ps.length → at0 (pricesOf ps.length U Pf) i = Rat.divInt (Pf i) U := fun i hi => at0_frac hi
  have hq : ∀ j, j < qs.length → at0 (pricesOf qs.length U Qf) j = Rat.divInt (Qf j) U := fun j hj => at0_frac hj
  have mul : ∀ (a b : Int) (x y : Nat), Rat.divInt a x * Rat.divInt b y = Rat.divInt (a * b) (x * y : Nat) := fun a b x y => by
    rw [Rat.divInt_mul_divInt]
    rfl
  refine ⟨⟨fun i j => Rat.divInt (valOf u (i, j)) G, ⟨fun i _ j _ => divInt_nnK' (W.nn _) G0, fun i hi => ?_, fun j hj => ?_⟩, ?_⟩, fun i hi j hj => ?_, ?_⟩
  · rw [rsumN_frac, W.row i hi, at0_tops G0 d1 hi]
  · rw [rsumN_frac, W.col j hj, at0_tops G0 d2 hj]
  · unfold spent costI
    rw [← rsumN_frac]
    refine rsumN_congr fun i hi => ?_
    rw [← rsumN_frac]
    refine rsumN_congr fun j hj => ?_
    rw [cAt_whole U0 (by omega) l hj dU, mul]
  · rw [hp i hi, hq j hj, cAt_whole U0 (by omega) l hj dU]
    have h := W.pq i hi j hj
    have nn : 0 ≤ Rat.divInt (wholeC U css (i, j) - (Pf i - Qf j)) (U : Int) := divInt_nnK' (by omega) U0
    have e1 : Rat.divInt (wholeC U css (i, j)) (U : Int) = Rat.divInt (wholeC U css (i, j) - (Pf i - Qf j)) (U : Int) + Rat.divInt (Pf i - Qf j) (U : Int) := by
      rw [← divInt_add_same]
      congr 1
      omega
    have e2 : Rat.divInt (Pf i) (U : Int) = Rat.divInt (Pf i - Qf j) (U : Int) + Rat.divInt (Qf j) (U : Int) := by
      rw [← divInt_add_same]
      congr 1
      omega
    grind
  · have k1 : rsumN ps.length (fun i => at0 (pricesOf ps.length U Pf) i * at0 ps i) = Rat.divInt (vsum (List.range ps.length) fun i => Pf i * (topsOf G ps).getD i 0) (U * G : Nat) := by
      rw [← rsumN_frac]
      exact rsumN_congr fun i hi => by rw [hp i hi, at0_tops G0 d1 hi, mul]
    have k2 : rsumN qs.length (fun j => at0 (pricesOf qs.length U Qf) j * at0 qs j) = Rat.divInt (vsum (List.range qs.length) fun i => Qf i * (topsOf G qs).getD i 0) (U * G : Nat) := by
      rw [← rsumN_frac]
      exact rsumN_congr fun i hi => by rw [hq i hi, at0_tops G0 d2 hi, mul]
    have e1 : (vsum (List.range ps.length) fun i => Pf i * (topsOf G ps).getD i 0) = costI (wholeC U css) ps.length qs.length u + vsum (List.range qs.length) fun i => Qf i * (topsOf G qs).getD i 0 := by
      have w := W.cost
      have h1 : (vsum (List.range ps.length) fun i => (topsOf G ps).getD i 0 * Pf i) = vsum (List.range ps.length) fun i => Pf i * (topsOf G ps).getD i 0 := vsum_congr fun i _ => Int.mul_comm _ _
      have h2 : (vsum (List.range qs.length) fun i => (topsOf G qs).getD i 0 * Qf i) = vsum (List.range qs.length) fun i => Qf i * (topsOf G qs).getD i 0 := vsum_congr fun i _ => Int.mul_comm _ _
      rw [h1, h2] at w
      unfold costI
      omega
    unfold gain
    rw [k1, k2, e1, divInt_add_same, Rat.add_sub_cancel]
end

end Fb

namespace Fb
open PySem PySem.Spec PyProof.Rows L2
section
/-! ### the cheapest cost of other costs and heaps (k15, k16) -/
variable {M N : Nat} {c c' : Nat → Nat → Rat} {p q h t p' q' h' t' : Nat → Rat} {v v' : Rat}
theorem Opt.nn (O : Opt M N c p q h t v) (c0 : ∀ i, i < M → ∀ j, j < N → 0 ≤ c i j) : 0 ≤ v := by
  obtain ⟨x, X, e⟩ := O.pl
  rw [← e]
  exact rsumN_nn fun i hi => rsumN_nn fun j hj => Rat.mul_nonneg (c0 i hi j hj) (X.nn i hi j hj)
theorem Opt.none (O : Opt M N c p q h t v) (c0 : ∀ i, i < M → ∀ j, j < N → c i j = 0) : v = 0 := by
  obtain ⟨x, X, e⟩ := O.pl
  rw [← e]
  exact rsumN_zero fun i hi => rsumN_zero fun j hj => by rw [c0 i hi j hj, Rat.zero_mul]
theorem Opt.home {h t : Nat → Rat} (O : Opt M M c p p h t v) (c0 : ∀ i, i < M → ∀ j, j < M → 0 ≤ c i j) (d0 : ∀ i, i < M → c i i = 0) (p0 : ∀ i, i < M → 0 ≤ p i) : v = 0 := by
  refine Rat.le_antisymm ?_ (O.nn c0)
  have X : Pln M M p p fun i j => if i = j then p i else 0 := by
    refine ⟨fun i hi j _ => ?_, fun i hi => ?_, fun j hj => ?_⟩
    · split
      · exact p0 i hi
      · exact Rat.le_refl
    · rw [rsumN_only hi fun j _ hj => if_neg fun z => hj z.symm, if_pos rfl]
    · rw [rsumN_only hj fun i _ hi => if_neg hi, if_pos rfl]
  refine Rat.le_trans (O.ub X) ?_
  have : spent M M c (fun i j => if i = j then p i else 0) = 0 := rsumN_zero fun i hi => rsumN_zero fun j hj => by
    show c i j * (if i = j then p i else 0) = 0
    split
    · rename_i e
      subst e
      rw [d0 i hi, Rat.zero_mul]
    · rw [Rat.mul_zero]
  rw [this]
  exact Rat.le_refl
theorem Opt.turned (O : Opt M N c p q h t v) : Opt N M (fun j i => c i j) q p (fun j => -t j) (fun i => -h i) v := by
  obtain ⟨x, X, e⟩ := O.pl
  refine ⟨⟨fun j i => x i j, ⟨fun j hj i hi => X.nn i hi j hj, X.col, X.row⟩, ?_⟩, fun j hj i hi => ?_, ?_⟩
  · rw [← e]
    exact rsumN_swap _ _ _
  · have := O.le i hi j hj
    grind
  · rw [← O.br]
    unfold gain
    have e1 : rsumN N (fun j => -t j * q j) = -1 * rsumN N fun j => t j * q j := by
      rw [← rsumN_mul]
      exact rsumN_congr fun j _ => by grind
    have e2 : rsumN M (fun i => -h i * p i) = -1 * rsumN M fun i => h i * p i := by
      rw [← rsumN_mul]
      exact rsumN_congr fun j _ => by grind
    rw [e1, e2]
    grind
/-- two steps: of all prices for both together there are prices for each that bring as much -/
theorem Opt.steps {L : Nat} {a : Nat → Nat → Rat} {r h1 t1 h2 t2 : Nat → Rat} {v1 v2 : Rat} (L0 : 0 < L) (O1 : Opt M N c p q h1 t1 v1) (O2 : Opt N L c' q r h2 t2 v2) (O : Opt M L a p r h t v) (le : ∀ i, i < M → ∀ k, k < L → ∀ j, j < N → a i k ≤ c i j + c' j k) : v ≤ v1 + v2 := by
  obtain ⟨s, sp⟩ : ∃ s : Nat → Rat, ∀ j, (∀ k, k < L → s j ≤ c' j k + t k) ∧ ∃ k, k < L ∧ s j = c' j k + t k :=
    ⟨fun j => Classical.choose (least_of L0 fun k => c' j k + t k), fun j => Classical.choose_spec (least_of L0 fun k => c' j k + t k)⟩
  have k1 := O1.lb (h' := h) (t' := s) fun i hi j hj => by
    obtain ⟨k, hk, e⟩ := (sp j).2
    have h1 := O.le i hi k hk
    have h2 := le i hi k hk j hj
    grind
  have k2 := O2.lb (h' := s) (t' := t) fun j hj k hk => by
    have := (sp j).1 k hk
    grind
  have e := O.br
  unfold gain at k1 k2 e
  grind
theorem Opt.scaled {k : Rat} (k0 : 0 ≤ k) (O : Opt M N c p q h t v) : Opt M N (fun i j => k * c i j) p q (fun i => k * h i) (fun j => k * t j) (k * v) := by
  obtain ⟨x, X, e⟩ := O.pl
  refine ⟨⟨x, X, ?_⟩, fun i hi j hj => ?_, ?_⟩
  · rw [← e]
    unfold spent
    rw [← rsumN_mul]
    refine rsumN_congr fun i _ => ?_
    rw [← rsumN_mul]
    exact rsumN_congr fun j _ => by rw [Rat.mul_assoc]
  · have := Rat.mul_le_mul_of_nonneg_left (O.le i hi j hj) k0
    grind
  · rw [← O.br]
    unfold gain
    have e1 : rsumN M (fun i => k * h i * p i) = k * rsumN M fun i => h i * p i := by rw [← rsumN_mul]; exact rsumN_congr fun i _ => by rw [Rat.mul_assoc]
    have e2 : rsumN N (fun j => k * t j * q j) = k * rsumN N fun j => t j * q j := by rw [← rsumN_mul]; exact rsumN_congr fun i _ => by rw [Rat.mul_assoc]
    rw [e1, e2]
    grind
theorem Opt.added {a b : Nat → Rat} (O : Opt M N c p q h t v) : Opt M N (fun i j => c i j + a i + b j) p q (fun i => h i + a i) (fun j => t j - b j) (v + (rsumN M (fun i => a i * p i) + rsumN N fun j => b j * q j)) := by
  obtain ⟨x, X, e⟩ := O.pl
  refine ⟨⟨x, X, ?_⟩, fun i hi j hj => ?_, ?_⟩
  · rw [← e]
    have g := gain_eq (h := a) (t := fun j => -b j) X
    unfold gain at g
    have e2 : rsumN N (fun j => -b j * q j) = -1 * rsumN N fun j => b j * q j := by rw [← rsumN_mul]; exact rsumN_congr fun i _ => by grind
    have e3 : rsumN M (fun i => a i * p i) + rsumN N (fun j => b j * q j) = rsumN M fun i => rsumN N fun j => (a i - -b j) * x i j := by
      rw [← g, e2]
      grind
    rw [e3]
    unfold spent
    rw [← rsumN_add]
    refine rsumN_congr fun i _ => ?_
    rw [← rsumN_add]
    exact rsumN_congr fun j _ => by grind
  · have := O.le i hi j hj
    grind
  · rw [← O.br]
    unfold gain
    have e1 : rsumN M (fun i => (h i + a i) * p i) = rsumN M (fun i => h i * p i) + rsumN M fun i => a i * p i := by rw [← rsumN_add]; exact rsumN_congr fun i _ => by grind
    have e2 : rsumN N (fun j => (t j - b j) * q j) = rsumN N (fun j => t j * q j) - rsumN N fun j => b j * q j := by rw [← rsumN_sub]; exact rsumN_congr fun i _ => by grind
    rw [e1, e2]
    grind
/-- a sum in another order -/
theorem rsum_perm {l l' : List Rat} (e : l.Perm l') : rsum l = rsum l' := by
  induction e with
  | nil => rfl
  | cons x _ ih => show x + _ = x + _; rw [ih]
  | swap x y l => show y + (x + _) = x + (y + _); grind
  | trans _ _ h1 h2 => rw [h1, h2]
theorem rsumN_perm {n : Nat} {os : List Nat} (e : os.Perm (List.range n)) (f : Nat → Rat) : rsumN n (fun i => f (os.getD i 0)) = rsumN n f := by
  have l : os.length = n := by rw [e.length_eq, List.length_range]
  have : (List.range n).map (fun i => f (os.getD i 0)) = os.map f := by
    refine List.ext_getElem? fun i => ?_
    by_cases hi : i < n
    · rw [List.getElem?_map, List.getElem?_range hi, List.getElem?_map, List.getElem?_eq_getElem (by omega)]
      show some (f (os.getD i 0)) = some _
      rw [List.getD_eq_getElem?_getD, List.getElem?_eq_getElem (by omega)]
      rfl
    · rw [List.getElem?_eq_none (by rw [List.length_map, List.length_range]; omega), List.getElem?_eq_none (by rw [List.length_map]; omega)]
  unfold rsumN
  rw [this]
  exact rsum_perm (e.map f)
theorem perm_lt {n : Nat} {os : List Nat} (e : os.Perm (List.range n)) {i : Nat} (hi : i < n) : os.getD i 0 < n := by
  have l : os.length = n := by rw [e.length_eq, List.length_range]
  rw [List.getD_eq_getElem?_getD, List.getElem?_eq_getElem (by omega)]
  exact List.mem_range.mp (e.mem_iff.mp (List.getElem_mem _))
theorem Opt.perm {os rs : List Nat} (e1 : os.Perm (List.range M)) (e2 : rs.Perm (List.range N)) (O : Opt M N c p q h t v) : Opt M N (fun i j => c (os.getD i 0) (rs.getD j 0)) (fun i => p (os.getD i 0)) (fun j => q (rs.getD j 0)) (fun i => h (os.getD i 0)) (fun j => t (rs.getD j 0)) v := by
  obtain ⟨x, X, e⟩ := O.pl
  refine ⟨⟨fun i j => x (os.getD i 0) (rs.getD j 0), ⟨fun i hi j hj => X.nn _ (perm_lt e1 hi) _ (perm_lt e2 hj), fun i hi => ?_, fun j hj => ?_⟩, ?_⟩, fun i hi j hj => O.le _ (perm_lt e1 hi) _ (perm_lt e2 hj), ?_⟩
  · rw [← X.row _ (perm_lt e1 hi)]
    exact rsumN_perm e2 _
  · rw [← X.col _ (perm_lt e2 hj)]
    exact rsumN_perm e1 fun i => x i (rs.getD j 0)
  · rw [← e]
    unfold spent
    rw [← rsumN_perm e1 fun i => rsumN N fun j => c i j * x i j]
    exact rsumN_congr fun i _ => rsumN_perm e2 fun j => c (os.getD i 0) j * x (os.getD i 0) j
  · rw [← O.br]
    unfold gain
    rw [← rsumN_perm e1 fun i => h i * p i, ← rsumN_perm e2 fun j => t j * q j]
/-- a place more on either side, that has or wants nothing -/
theorem Opt.wide (M0 : 0 < M) (O : Opt M N c p q h t v) (O' : Opt (M + 1) (N + 1) c' p' q' h' t' v') (ec : ∀ i, i < M → ∀ j, j < N → c' i j = c i j) (c0 : ∀ j, j < N + 1 → 0 ≤ c' M j) (c1 : ∀ i, i < M → 0 ≤ c' i N) (ep : ∀ i, i < M → p' i = p i) (eq : ∀ j, j < N → q' j = q j) (p0 : p' M = 0) (q0 : q' N = 0) : v' = v := by
  refine Rat.le_antisymm ?_ ?_
  · have k := O.lb (h' := h') (t' := t') fun i hi j hj => by
      rw [← ec i hi j hj]
      exact O'.le i (by omega) j (by omega)
    have e := O'.br
    unfold gain at k e
    rw [rsumN_succ, rsumN_succ, p0, q0] at e
    rw [rsumN_congr (f := fun i => h' i * p' i) (g := fun i => h' i * p i) fun i hi => by rw [ep i hi], rsumN_congr (f := fun i => t' i * q' i) (g := fun i => t' i * q i) fun i hi => by rw [eq i hi]] at e
    grind
  · obtain ⟨m, m1, m2⟩ := least_of M0 fun i => -h i
    obtain ⟨l, l1, l2⟩ := least_of (n := N + 1) (by omega) fun j => if j < N then t j else -m
    have k := O'.lb (h' := fun i => if i < M then h i else l) (t' := fun j => if j < N then t j else -m) fun i hi j hj => by
      try dsimp only
      by_cases a : i < M
      · rw [if_pos a]
        by_cases b : j < N
        · rw [if_pos b, ec i a j b]
          exact O.le i a j b
        · rw [if_neg b, show j = N by omega]
          have := m1 i a
          have := c1 i a
          grind
      · rw [if_neg a]
        have := l1 j hj
        have e : i = M := by omega
        subst e
        have := c0 j hj
        grind
    have e := O.br
    unfold gain at k e
    rw [rsumN_succ, rsumN_succ, p0, q0] at k
    rw [rsumN_congr (n := M) (f := fun i => (if i < M then h i else l) * p' i) (g := fun i => h i * p i) fun i hi => by rw [if_pos hi, ep i hi], rsumN_congr (n := N) (f := fun i => (if i < N then t i else -m) * q' i) (g := fun i => t i * q i) fun i hi => by rw [if_pos hi, eq i hi]] at k
    grind
/-- where place a is parted in two -/
def past (a i : Nat) : Nat := if i ≤ a then i else i - 1
theorem rsumN_past {a n : Nat} (an : a < n) (f g : Nat → Rat) (e : ∀ i, i < n + 1 → i ≠ a → i ≠ a + 1 → g i = f (past a i)) : rsumN (n + 1) g = rsumN n f - f a + g a + g (a + 1) := by
  obtain ⟨d, rfl⟩ := Nat.le.dest (show a + 1 ≤ n by omega)
  clear an
  induction d with
  | zero =>
    rw [rsumN_succ, rsumN_succ, rsumN_succ]
    have : rsumN a g = rsumN a f := rsumN_congr fun i hi => by
      rw [e i (by omega) (by omega) (by omega)]
      unfold past
      rw [if_pos (by omega)]
    rw [this]
    show _ + g (a + 1) = _
    grind
  | succ d ih =>
    have k := ih fun i hi => e i (by omega)
    have h1 : rsumN (a + 1 + (d + 1) + 1) g = rsumN (a + 1 + d + 1) g + g (a + 1 + d + 1) := rsumN_succ _ _
    have h2 : rsumN (a + 1 + (d + 1)) f = rsumN (a + 1 + d) f + f (a + 1 + d) := rsumN_succ _ _
    have h3 : g (a + 1 + d + 1) = f (a + 1 + d) := by
      rw [e _ (by omega) (by omega) (by omega)]
      unfold past
      rw [if_neg (by omega)]
      rfl
    rw [h1, h2, k, h3]
    grind
theorem Opt.parted {a : Nat} (aM : a < M) (O : Opt M N c p q h t v) (O' : Opt (M + 1) N c' p' q h' t' v') (ec : ∀ i, i < M + 1 → ∀ j, j < N → c' i j = c (past a i) j) (ep : ∀ i, i < M + 1 → i ≠ a → i ≠ a + 1 → p' i = p (past a i)) (pa : p' a + p' (a + 1) = p a) (p0 : 0 ≤ p' a) (p1 : 0 ≤ p' (a + 1)) : v' = v := by
  have pl : ∀ i, i < M + 1 → past a i < M := fun i hi => by unfold past; split <;> omega
  have pA : past a a = a := if_pos (Nat.le_refl _)
  have pB : past a (a + 1) = a := by unfold past; rw [if_neg (by omega)]; rfl
  refine Rat.le_antisymm ?_ ?_
  · obtain ⟨m, ma, mb, me⟩ : ∃ m : Rat, h' a ≤ m ∧ h' (a + 1) ≤ m ∧ (m = h' a ∨ m = h' (a + 1)) := by
      by_cases b : h' a ≤ h' (a + 1)
      · exact ⟨_, b, Rat.le_refl, .inr rfl⟩
      · exact ⟨_, Rat.le_refl, by grind, .inl rfl⟩
    have k := O.lb (h' := fun i => if i = a then m else if i < a then h' i else h' (i + 1)) (t' := t') fun i hi j hj => by
      try dsimp only
      have l1 := O'.le a (by omega) j hj
      have l2 := O'.le (a + 1) (by omega) j hj
      rw [ec _ (by omega) _ hj, pA] at l1
      rw [ec _ (by omega) _ hj, pB] at l2
      by_cases e1 : i = a
      · subst e1
        rw [if_pos rfl]
        rcases me with e | e <;> rw [e] <;> assumption
      · rw [if_neg e1]
        by_cases e2 : i < a
        · rw [if_pos e2]
          have l3 := O'.le i (by omega) j hj
          rw [ec _ (by omega) _ hj] at l3
          unfold past at l3
          rwa [if_pos (by omega)] at l3
        · rw [if_neg e2]
          have l3 := O'.le (i + 1) (by omega) j hj
          rw [ec _ (by omega) _ hj] at l3
          unfold past at l3
          rwa [if_neg (by omega)] at l3
    have e := O'.br
    unfold gain at k e
    rw [rsumN_past aM (fun i => (if i = a then m else if i < a then h' i else h' (i + 1)) * p i) (fun i => h' i * p' i) fun i hi n1 n2 => by
      try dsimp only
      rw [ep i hi n1 n2]
      unfold past
      by_cases e1 : i ≤ a
      · rw [if_pos e1, if_neg n1, if_pos (by omega)]
      · rw [if_neg e1, if_neg (by omega), if_neg (by omega), show i - 1 + 1 = i by omega], if_pos rfl] at e
    have q1 := Rat.mul_le_mul_of_nonneg_right ma p0
    have q2 := Rat.mul_le_mul_of_nonneg_right mb p1
    have q3 : m * p a = m * p' a + m * p' (a + 1) := by rw [← pa, Rat.mul_add]
    generalize rsumN M (fun i => (if i = a then m else if i < a then h' i else h' (i + 1)) * p i) = S at k e
    generalize rsumN N (fun j => t' j * q j) = R at k e
    grind
  · have k := O'.lb (h' := fun i => h (past a i)) (t' := t) fun i hi j hj => by
      rw [ec i hi j hj]
      exact O.le _ (pl i hi) j hj
    have e := O.br
    unfold gain at k e
    rw [rsumN_past aM (fun i => h i * p i) (fun i => h (past a i) * p' i) fun i hi n1 n2 => by rw [ep i hi n1 n2]] at k
    try dsimp only at k
    rw [pA, pB] at k
    have q3 : h a * p a = h a * p' a + h a * p' (a + 1) := by rw [← pa, Rat.mul_add]
    grind
/-- a plan is one of the least cost just where it carries only where prices come to the cost -/
theorem rsumN_zero_of {n : Nat} {f : Nat → Rat} (nn : ∀ i, i < n → 0 ≤ f i) (z : rsumN n f = 0) : ∀ i, i < n → f i = 0 := fun i hi => by
  have := rsumN_ge nn hi
  rw [z] at this
  exact Rat.le_antisymm this (nn i hi)
theorem Opt.tight (O : Opt M N c p q h t v) {x : Nat → Nat → Rat} (X : Pln M N p q x) : spent M N c x = v ↔ ∀ i, i < M → ∀ j, j < N → 0 < x i j → h i - t j = c i j := by
  have e : spent M N c x - v = rsumN M fun i => rsumN N fun j => (c i j - (h i - t j)) * x i j := by
    rw [← O.br, gain_eq X]
    unfold spent
    rw [← rsumN_sub]
    refine rsumN_congr fun i _ => ?_
    rw [← rsumN_sub]
    exact rsumN_congr fun j _ => by grind
  have nn : ∀ i, i < M → ∀ j, j < N → 0 ≤ (c i j - (h i - t j)) * x i j := fun i hi j hj => Rat.mul_nonneg (by have := O.le i hi j hj; grind) (X.nn i hi j hj)
  constructor
  · intro z i hi j hj x0
    rw [z, Rat.sub_self] at e
    have h1 := rsumN_zero_of (fun i hi => rsumN_nn (nn i hi)) e.symm i hi
    have h2 := rsumN_zero_of (nn i hi) h1 j hj
    rcases Rat.mul_eq_zero.mp h2 with h3 | h3 <;> grind
  · intro a
    have : spent M N c x - v = 0 := by
      rw [e]
      refine rsumN_zero fun i hi => rsumN_zero fun j hj => ?_
      by_cases x0 : 0 < x i j
      · rw [a i hi j hj x0]
        grind
      · have := X.nn i hi j hj
        rw [show x i j = 0 by grind, Rat.mul_zero]
    grind
end

end Fb

namespace Fb
open PySem PySem.Spec PyProof.Rows L2
section
/-! ### costs at places, tables of pairs beside the well -/
theorem cAt_of {css : List (List Rat)} {i j : Nat} {r : List Rat} {x : Rat} (h1 : css[i]? = some r) (h2 : r[j]? = some x) : cAt css i j = x := by
  unfold cAt
  rw [rowAt_of h1, at0_of h2]
theorem IsPrs.hidW {H : Hp} {a : Addr} {n : Nat} {v : V} {qs : List Rat} (w : WellAt H a n) (h : IsPrs H v qs) : IsPrs (hid a H) v qs := by
  obtain ⟨p, vs, rfl, hp, aa⟩ := h
  obtain ⟨w0, w1, w2, e, r⟩ := w
  have ne : p ≠ a := fun z => by
    rw [z, e] at hp
    cases hp
    obtain ⟨_, _, p', ep, _⟩ := aa.at (i := 0) rfl
    cases ep
  exact ⟨p, vs, rfl, by rw [hid_ne ne]; exact hp, aa.imp fun _ _ h => IsTup2.hid ⟨w0, w1, w2, e, r⟩ h⟩
theorem tbl_mono' {H H' : Hp} {v : V} {qss : List (List Rat)} (h : IsTbl IsPrs H v qss) (s : Same H H') : IsTbl IsPrs H' v qss := IsTbl.mono (fun _ _ _ _ s h => h.mono s) h s
theorem CostN.g {css : List (List Rat)} {k b : Nat} (h : CostN css k b) : CostG css k b := ⟨h.b0, by have := h.b1; omega, fun r hr => ⟨(h.row r hr).1, fun q hq => ((h.row r hr).2 q hq).mono (Nat.dvd_refl _) (by decide)⟩⟩
/-- a table by places -/
def tabF (M N : Nat) (f : Nat → Nat → Rat) : List (List Rat) := (List.range M).map fun i => (List.range N).map (f i)
theorem tabF_len {M N : Nat} {f : Nat → Nat → Rat} : (tabF M N f).length = M := by unfold tabF; rw [List.length_map, List.length_range]
theorem tabF_at {M N : Nat} {f : Nat → Nat → Rat} {i : Nat} (h : i < M) : (tabF M N f)[i]? = some ((List.range N).map (f i)) := by unfold tabF; rw [List.getElem?_map, List.getElem?_range h]; rfl
theorem cAt_tabF {M N : Nat} {f : Nat → Nat → Rat} {i j : Nat} (hi : i < M) (hj : j < N) : cAt (tabF M N f) i j = f i j :=
  cAt_of (tabF_at hi) (by rw [List.getElem?_map, List.getElem?_range hj]; rfl)
theorem tabF_mem {M N : Nat} {f : Nat → Nat → Rat} {r : List Rat} (h : r ∈ tabF M N f) : r.length = N ∧ ∀ q ∈ r, ∃ i j, i < M ∧ j < N ∧ q = f i j := by
  obtain ⟨i, hi, rfl⟩ := List.mem_map.mp h
  refine ⟨by rw [List.length_map, List.length_range], fun q hq => ?_⟩
  obtain ⟨j, hj, rfl⟩ := List.mem_map.mp hq
  exact ⟨i, j, List.mem_range.mp hi, List.mem_range.mp hj, rfl⟩
theorem tabF_cost {M N b : Nat} {f : Nat → Nat → Rat} (b0 : 0 < b) (b1 : b ≤ 1000000) (h : ∀ i, i < M → ∀ j, j < N → Nice b 10000000000000000000000 (f i j)) : CostG (tabF M N f) N b :=
  ⟨b0, b1, fun r hr => ⟨(tabF_mem hr).1, fun q hq => by
    obtain ⟨i, j, hi, hj, rfl⟩ := (tabF_mem hr).2 q hq
    exact h i hi j hj⟩⟩
theorem tabF_nn {M N : Nat} {f : Nat → Nat → Rat} (h : ∀ i, i < M → ∀ j, j < N → 0 ≤ f i j) : ∀ l ∈ tabF M N f, ∀ q ∈ l, 0 ≤ q := fun r hr q hq => by
  obtain ⟨i, j, hi, hj, rfl⟩ := (tabF_mem hr).2 q hq
  exact h i hi j hj
/-- [f(x, y) for x, y in zip(..)] of lists of pairs -/
theorem lc_zip2 {K : PySem.W.Frag} {f : Rat → Rat → Rat} {pa pb D : Addr} {as bs : List V} {xs ys : List Rat} {σ : L2.St} {vs : List Nat} {i j : Nat} {H1 : Hp} {Qd : Hp → Prop} (hi : i ∈ vs) (hj : j ∈ vs) (ij : j ≠ i) (li : i < σ.length) (lj : j < σ.length)
    (nD : H1 D = none) (ea : H1 pa = some (.lst as)) (eb : H1 pb = some (.lst bs)) (aa : AllAre (IsPr H1) as xs) (ab : AllAre (IsPr H1) bs ys) (bx : ∀ x ∈ xs, Bd 4000 x) (by_ : ∀ y ∈ ys, Bd 4000 y) (le : xs.length ≤ 1000)
    (hd : ∀ H zs, Same H1 H → H D = some (.lst zs) → AllAre (IsPr H) zs (List.zipWith f xs ys) → Qd H) :
    ∃ W : Nat → Nat → Hp → Prop, (∃ m, W 0 m (upd H1 D (.lst []))) ∧ ∀ i0 m H, W i0 m H →
      ((Itz K pa pb).stop i0 H ∧ Qd H) ∨ ((Itz K pa pb).go i0 H ∧ ∃ Nx : Hp → Prop, (∀ H', Nx H' → ∃ m', m' < m ∧ W (i0 + 1) m' H') ∧ ∀ x H', (Itz K pa pb).yld i0 H x H' → gTup K 2 (gCons (gName i) (gCons (gName j) gNil)) x (wipe σ vs) H' fun σ2 H2 => wipe σ2 vs = wipe σ vs ∧ tYes σ2 H2 fun b H3 =>
        if b = true then tCall (spTwo f) [] E0 (tCons (tVar i) (tCons (tVar j) tNil)) σ2 H3 fun y H4 => ∃ acc, H4 D = some (.lst acc) ∧ acc.length < sizeLine ∧ Nx (upd H4 D (.lst (acc ++ [y]))) else Nx H3) := by
  have lz : (List.zipWith f xs ys).length = min as.length bs.length := by rw [List.length_zipWith, aa.1, ab.1]
  refine lc_allW (walk_zip (K := K) (a := pa) (b := pb) (xs := as) (ys := bs) rfl) (fun i y G => ∃ z, (List.zipWith f xs ys)[i]? = some z ∧ IsPr G y z) (fun _ _ _ _ s h => h.elim fun z f => ⟨z, f.1, f.2.mono s⟩) nD (fun H' s => ⟨s.seq (SqL.of ea), s.seq (SqL.of eb)⟩) (by rw [aa.1]; omega) (fun k x H3 H4 kk hk s3 eD y hkk => ?_) (fun H3 zs s3 e3 l3 r3 => ?_)
  · obtain ⟨T2, x1, x2, rfl, nT2, rfl, hx1, hx2⟩ := y
    have hx1 : as[k]? = some x1 := hx1
    have hx2 : bs[k]? = some x2 := hx2
    obtain ⟨z1, hz1, g1⟩ := aa.at hx1
    obtain ⟨z2, hz2, g2⟩ := ab.at hx2
    have sT2 := same_upd (o := .tup [x1, x2]) nT2
    have sB := s3.trans (hid_same.trans sT2)
    refine ⟨T2, _, rfl, .inl (.inl upd_same), rfl, _, _, rfl, _, _, rfl, rfl, wipe2 hi hj, ?_⟩
    refine ⟨_, look_1 li ij, _, look_2 lj, spTwo.mk (E := E0) (g1.mono sB) (g2.mono sB) (bx z1 (List.mem_of_getElem? hz1)) (by_ z2 (List.mem_of_getElem? hz2)) fun H5 r5 s5 h5 => hkk _ _ (sT2.trans s5) ⟨f z1 z2, ?_, IsPr.hidL ?_ h5⟩⟩
    · rw [List.getElem?_zipWith, hz1, hz2]
    · obtain ⟨ys', e'⟩ := eD
      exact ⟨ys', s5 _ _ (sT2 _ _ e')⟩
  · refine hd H3 zs (s3.trans hid_same) e3 (.of_ix (by rw [l3, lz]) fun i y hy => ?_)
    obtain ⟨z, hz, g⟩ := r3 i y hy
    exact ⟨z, hz, g.mono hid_same⟩
theorem heap_nice {qs : List Rat} (h' : HeapOk qs) : ∃ S : Nat, 0 < S ∧ (∀ q ∈ qs, q.den ∣ S) ∧ S ≤ 1000 ∧ ∀ q ∈ qs, Nice S 1 q := by
  have h := h'.g
  obtain ⟨S, s0, s1, sd⟩ := h'.den
  refine ⟨S, s0, sd, s1, fun q hq => ⟨sd q hq, ?_⟩⟩
  have h1 := heapG_le1 h hq
  have h0 := Rat.num_nonneg.mpr (h.nn q hq)
  have := (Rat.le_iff q 1).mp h1
  have e1 : (1 : Rat).num = 1 := rfl
  have e2 : (1 : Rat).den = 1 := rfl
  rw [e1, e2] at this
  omega
theorem look1s {σ : L2.St} {vs : List Nat} {i : Nat} {x : Option V} (hl : i < σ.length) : ((wipe σ vs).set i x)[i]? = some x := by
  rw [List.getElem?_set_self (by rw [wipe_length]; exact hl)]
theorem look1o {σ : L2.St} {vs : List Nat} {i l : Nat} {x o : Option V} (h : σ[l]? = some o) (hl : l ∉ vs) (n1 : i ≠ l) : ((wipe σ vs).set i x)[l]? = some o := by
  rw [List.getElem?_set_ne n1, wipe_out hl, h]
theorem heap_more {ps : List Rat} (h : HeapG ps) : HeapG (ps ++ [0]) := by
  obtain ⟨S, s0, s1, sd⟩ := h.den
  refine ⟨fun q hq => ?_, ⟨S, s0, s1, fun q hq => ?_⟩, ?_⟩
  · rcases List.mem_append.mp hq with hq | hq
    · exact h.nn q hq
    · rw [List.mem_singleton.mp hq]; exact Rat.le_refl
  · rcases List.mem_append.mp hq with hq | hq
    · exact sd q hq
    · rw [List.mem_singleton.mp hq]; exact Nat.one_dvd _
  · rw [rsum_append, h.one]
    decide +kernel
theorem at0_app {ps : List Rat} {i : Nat} (h : i < ps.length) : at0 (ps ++ [0]) i = at0 ps i := by
  rw [at0_of (l := ps ++ [0]) (by rw [List.getElem?_append_left h]; exact List.getElem?_eq_getElem h), at0_of (List.getElem?_eq_getElem h)]
theorem at0_end {ps : List Rat} : at0 (ps ++ [0]) ps.length = 0 := at0_of (by rw [List.getElem?_append_right (Nat.le_refl _), Nat.sub_self]; rfl)
theorem mem2 {α : Type} {a b x : α} {i : Nat} (h : [a, b][i]? = some x) : x = a ∨ x = b := by
  have := List.mem_of_getElem? h
  simpa using this
theorem pr_of {H : Hp} {p : Addr} {t b : Int} {y : Rat} (h : H p = some (.tup [.int t, .int b])) (e1 : y.num = t) (e2 : (y.den : Int) = b) : IsPr H (.ref p) y := ⟨p, rfl, by rw [e1, e2]; exact h⟩
end

end Fb

namespace Fb
open PySem PySem.Spec PyProof.Rows L2
section
variable {P : Program} {w : World} {K : PySem.W.Frag} {mg : Str → Option Value} {base : Heap}
/-! ### the law's plans -/
theorem ite_fin {c A B : Prop} [Decidable c] {Rest : V → Hp → Prop} (H : Hp) (M : V → Prop) (h1 : c → (∀ x, M x → Rest x H) → A) (h2 : ¬ c → (∀ x, M x → Rest x H) → B) (h3 : ∀ x, M x → Rest x H) : if c then A else B := by
  by_cases h : c
  · rw [if_pos h]
    exact h1 h h3
  · rw [if_neg h]
    exact h2 h h3
def tblOf (m k : Nat) (T : Nat → Nat → Rat) : List (List Rat) := (List.range m).map fun x => (List.range k).map (T x)
def spFilled : Sp := fun vs H Q _ => ∃ (a : Addr) (v u : V) (pl ql : List Rat) (n : Nat), vs = [.ref a, v, u] ∧ WellAt H a (n + 150) ∧ IsPrs (hid a H) v pl ∧ IsPrs (hid a H) u ql ∧ HeapOk pl ∧ HeapOk ql ∧ pl.length ≤ 12 ∧ ql.length ≤ 12 ∧
  ∀ H' p vs T, H p = none → Same (hid a H) (hid a H') → WellAt H' a n → hid a H' p = some (.lst vs) → AllAre (IsPrs (hid a H')) vs (tblOf pl.length ql.length T) → (∀ y ∈ vs, ∃ q, y = .ref q ∧ H q = none) → PlanOk pl.length ql.length (at0 pl) (at0 ql) T → Q (.ref p) H'
theorem VecAt.hidN {H : Hp} {a p : Addr} {n m : Nat} {f : Nat → Rat} (w : WellAt H a n) (hp : p ≠ a) (v : VecAt H p m f) : VecAt (hid a H) p m f := by
  obtain ⟨vs, e, l, r⟩ := v
  exact ⟨vs, by rw [hid_ne hp]; exact e, l, fun i v hv => IsTup2.hid w (r i v hv)⟩
theorem ok_l_filled (T : Txt K mg) : FnOk P w K mg base CX0 3 T.f_l_filled T.d_l_filled ["_law_well_here", "_law_first", "_law_second"] spFilled := by
  refine T.F_l_filled.ok sc_l_filled (fun vs H Q E h => ?_) (fun cdv A outer s H vs Q E hr h => ?_)
  · obtain ⟨a, v, u, pl, ql, n, rfl, _⟩ := h
    rfl
  · obtain ⟨a, v, u, pl, ql, n, rfl, hw, hv, hu, okp, okq, m12, k12, q⟩ := h
    refine ⟨_, (pss_cons (ps_par (i := 3) (j := 4) (by rfl) sc_l_filled.nd rfl rfl (by decide) rfl rfl (pa_cons (pe_callTy call_list_of (by rfl) T.z_list (by decide +kernel) (pa_cons (pv 1) pa_nil)) (pa_cons (pe_callTy call_list_of (by rfl) T.z_list (by decide +kernel) (pa_cons (pv 2) pa_nil)) pa_nil)) (by rfl))
 (pss_cons (ps_setLc (i := 5) (own := [("_law_share", 10)]) (g := (gName 10)) (tt := tYes) (by rfl) sc_l_filled.nd rfl rfl (sw_true rfl rfl rfl (by decide +kernel)) (pi_list (pv 1)) (blkOk_by (own := [("_law_share", 10)]) (N := ["_law_well_here", "_law_first", "_law_second", "_law_have", "_law_want", "_law_plan", "_law_spots", "_law_x", "_law_y", "_law_amount", "_law_share"]) (sc := defScope s_l_filled) (by decide +kernel)) (fun _ _ _ _ _ => by exact (pg_name (i := 10) sc_l_filled.nd rfl (.inl rfl))) (fun _ _ _ _ _ => by exact pts_nil) (fun _ _ _ _ _ => by exact (pe_op op_rep (pe_lst (pa_cons (pe_tup (pa_cons pe_int (pa_cons pe_int pa_nil))) pa_nil)) (pe_callB (call_len_seqK (K := K) rfl) (by rfl) T.z_len (by decide +kernel) (pa_cons (pv 2) pa_nil)))))
 (pss_cons (ps_set (i := 6) sc_l_filled.nd rfl (.inl rfl) (pe_lst pa_nil))
 (pss_cons (ps_for PassesOwn.never rfl (pi_range1 (by rfl) T.z_range (pa_cons (pe_callB call_len_seq (by rfl) T.z_len (by decide +kernel) (pa_cons (pv 1) pa_nil)) pa_nil)) (pg_name (i := 7) sc_l_filled.nd rfl (.inr rfl))
  (pss_one (ps_expr (pe_bm PySem.F.plainAttrs_list PySem.F.slot_list_extend PySem.F.type_list_extend mt_extend (pv 6) (pa_cons (pe_lc (own := [("_law_y", 8)]) (g := (gName 8)) (tt := tYes) (by rfl) sc_l_filled.nd (pi_range1 (by rfl) T.z_range (pa_cons (pe_callB call_len_seq (by rfl) T.z_len (by decide +kernel) (pa_cons (pv 2) pa_nil)) pa_nil)) (blkOk_by (own := [("_law_y", 8)]) (N := ["_law_well_here", "_law_first", "_law_second", "_law_have", "_law_want", "_law_plan", "_law_spots", "_law_x", "_law_y", "_law_amount", "_law_share"]) (sc := defScope s_l_filled) (by decide +kernel)) (fun _ _ _ _ _ => by exact (pg_name (i := 8) sc_l_filled.nd rfl (.inl rfl))) (fun _ _ _ _ _ => by exact pts_nil) (fun _ _ _ _ _ => by exact (pe_tup (pa_cons (pv 7) (pa_cons (pv 8) pa_nil))))) pa_nil)))))
 (pss_cons (ps_while PassesOwn.never (pt_cmpR (op_neNil hr.units0) (pv 6) (pe_lst pa_nil) (nomark _))
  (pss_cons (ps_asg (pe_bm PySem.F.plainAttrs_list PySem.F.slot_list_pop PySem.F.type_list_pop mt_popAt (pv 6) (pa_cons (pe_call (ok_l_draw T) (hr.mono (by decide)) (by rfl) T.g_l_draw T.F_l_draw.kp T.b_l_draw .nil pass0 (pa_cons (pv 0) (pa_cons (pe_callB call_len_seq (by rfl) T.z_len (by decide +kernel) (pa_cons (pv 6) pa_nil)) pa_nil))) pa_nil)) (pg_tup (by rfl) (pgs_cons (pg_name (i := 7) sc_l_filled.nd rfl (.inr rfl)) (pgs_cons (pg_name (i := 8) sc_l_filled.nd rfl (.inl rfl)) pgs_nil))))
 (pss_cons (ps_set (i := 9) sc_l_filled.nd rfl (.inl rfl) (pe_ifExp (pt_val (pe_call (ok_l_below T) (hr.mono (by decide)) (by rfl) T.g_l_below T.F_l_below.kp T.b_l_below .nil pass0 (pa_cons (pe_ix ix_list (pv 4) (pv 8) (fun _ _ => rfl)) (pa_cons (pe_ix ix_list (pv 3) (pv 7) (fun _ _ => rfl)) pa_nil)))) (pe_ix ix_list (pv 4) (pv 8) (fun _ _ => rfl)) (pe_ix ix_list (pv 3) (pv 7) (fun _ _ => rfl))))
 (pss_cons (ps_asg (pv 9) (pg_sub (pe_ix ix_list (pv 5) (pv 7) (fun _ _ => rfl)) (pv 8) set_list))
 (pss_cons (ps_asg (pe_call (ok_l_added T) (hr.mono (by decide)) (by rfl) T.g_l_added T.F_l_added.kp T.b_l_added .nil pass0 (pa_cons (pe_ix ix_list (pv 3) (pv 7) (fun _ _ => rfl)) (pa_cons (pe_tup (pa_cons (pe_op op_sub pe_int (pe_ix ix_tup (pv 9) pe_int (fun _ _ => rfl))) (pa_cons (pe_ix ix_tup (pv 9) pe_int (fun _ _ => rfl)) pa_nil))) pa_nil))) (pg_sub (pv 3) (pv 7) set_list))
 (pss_one (ps_asg (pe_call (ok_l_added T) (hr.mono (by decide)) (by rfl) T.g_l_added T.F_l_added.kp T.b_l_added .nil pass0 (pa_cons (pe_ix ix_list (pv 4) (pv 8) (fun _ _ => rfl)) (pa_cons (pe_tup (pa_cons (pe_op op_sub pe_int (pe_ix ix_tup (pv 9) pe_int (fun _ _ => rfl))) (pa_cons (pe_ix ix_tup (pv 9) pe_int (fun _ _ => rfl)) pa_nil))) pa_nil))) (pg_sub (pv 4) (pv 8) set_list))))))))
 (pss_one (ps_ret (pv 5)))))))), ?_⟩
    obtain ⟨p1, xs1, rfl, e1, a1⟩ := id hv
    obtain ⟨p2, xs2, rfl, e2, a2⟩ := id hu
    have sh : ∀ H', Same (hid a H) H' → Same (hid a H) H' := fun _ s => s
    -- the two copies
    refine ⟨_, rfl, p1, xs1, rfl, .inl (hid_same.seq (SqL.of e1)), fun ph nh => ?_⟩
    obtain ⟨w3, s3⟩ := well_new (o := .lst xs1) hw nh
    refine ⟨_, rfl, p2, xs2, rfl, .inl ((s3.trans hid_same).seq (SqL.of e2)), fun pw nw => ?_⟩
    obtain ⟨w4, s4⟩ := well_new (o := .lst xs2) w3 nw
    refine ⟨_, _, rfl, ?_⟩
    have hhw : ph ≠ pw := fun z => by
      rw [← z, upd_same] at nw
      cases nw
    have s34 := s3.trans s4
    have vh : VecAt (upd (upd H ph (.lst xs1)) pw (.lst xs2)) ph pl.length (at0 pl) := by
      refine ⟨xs1, by rw [upd_ne hhw]; exact upd_same, a1.1, fun i v hv => ?_⟩
      obtain ⟨z, hz, r⟩ := a1.at hv
      rw [at0_of hz]
      exact r.mono (s34.trans hid_same)
    have vw : VecAt (upd (upd H ph (.lst xs1)) pw (.lst xs2)) pw ql.length (at0 ql) := by
      refine ⟨xs2, upd_same, a2.1, fun i v hv => ?_⟩
      obtain ⟨z, hz, r⟩ := a2.at hv
      rw [at0_of hz]
      exact r.mono (s34.trans hid_same)
    have nwH : H pw = none := by
      rw [upd_ne hhw.symm] at nw
      exact nw
    have nha := hw.ne nh
    have nwa := hw.ne nwH
    generalize upd (upd H ph (.lst xs1)) pw (.lst xs2) = H4 at *
    -- the plan of noughts
    have q1 : SqL K H4 p1 xs1 := (s34.trans hid_same).seq (SqL.of e1)
    have q2 : SqL K H4 p2 xs2 := (s34.trans hid_same).seq (SqL.of e2)
    refine ⟨_, rfl, p1, rfl, ⟨_, q1⟩, fun pp npp => lc_rows (K := K) (a := p1) (xs := xs1) ql.length (fun _ => 0) npp q1 (by rw [a1.1]; omega) (fun i x H5 kk hx s5 hk => ?_) (fun H5 rs s5 e5 l5 nd5 r5 => ?_)⟩
    · refine ⟨rfl, by show 2 ≤ sizeLine; decide, fun t nt => ⟨by show 1 ≤ sizeLine; decide, fun l nl => ?_⟩⟩
      have st := same_upd (o := .tup [.int 0, .int 1]) nt
      have sl := same_upd (o := .lst [.ref t]) nl
      refine ⟨_, rfl, p2, xs2, rfl, .inl ((s5.trans (st.trans sl)).seq q2), l, _, _, rfl, rfl, upd_same, by omega, by rw [a2.1]; omega, ?_, fun r nr => ?_⟩
      · show 1 * ((xs2.length : Nat) : Int).toNat ≤ sizeLine
        rw [Int.toNat_natCast, Nat.one_mul, a2.1]
        exact Nat.le_of_lt (small1000 (by omega))
      · have sr := same_upd (o := .lst (List.replicate ((xs2.length : Nat) : Int).toNat [V.ref t]).flatten) nr
        have nrl : r ≠ l := fun z => by
          rw [z, upd_same] at nr
          cases nr
        have nrt : r ≠ t := fun z => by
          rw [z, sl _ _ upd_same] at nr
          cases nr
        refine hk r _ ?_ (st.trans (sl.trans sr)) ?_
        · rw [upd_ne nrl, upd_ne nrt] at nr
          exact nr
        · refine ⟨_, upd_same, ?_, fun j v hv => ?_⟩
          · rw [Int.toNat_natCast, flat_rep, List.length_replicate, a2.1]
          · rw [Int.toNat_natCast, flat_rep] at hv
            have : v = .ref t := by
              have := List.mem_of_getElem? hv
              exact (List.mem_replicate.mp this).2
            subst this
            exact ⟨t, rfl, sr _ _ (sl _ _ upd_same)⟩
    -- no spots
    have sD : Same H4 H5 := s5.trans hid_same
    have w5 := w4.same sD
    refine ⟨Nat.zero_le _, fun ps nps => ?_⟩
    have s6 := same_upd (o := .lst []) nps
    have F0 : FillAt H a (n + 150) pl.length ql.length ph pw pp ps rs (at0 pl) (at0 ql) (fun _ _ => 0) (spotsTo ql.length 0) (upd H5 ps (.lst [])) := by
      have nd := List.nodup_cons.mp nd5
      have all4 : ∀ p, H4 p = none → H p = none ∧ p ≠ a := fun p hp => ⟨none_back s34 w4 hp, w4.ne hp⟩
      have np5 : H4 ps = none := by
        cases e : H4 ps with
        | none => rfl
        | some o =>
          have := sD _ _ e
          rw [nps] at this
          cases this
      have h4 : H4 ph ≠ none := by
        obtain ⟨vs, e, _⟩ := vh
        rw [e]
        exact fun z => nomatch z
      have w4' : H4 pw ≠ none := by
        obtain ⟨vs, e, _⟩ := vw
        rw [e]
        exact fun z => nomatch z
      refine ⟨s34.trans (hid_mono (sD.trans s6)), w5.same s6, fun p hp => ?_, ?_, (vh.same sD).same s6, (vw.same sD).same s6, s6 _ _ e5, by rw [l5, a1.1], fun x r hr => ((r5 r (List.mem_of_getElem? hr)).2).same s6, ⟨[], upd_same, .nil⟩⟩
      · simp only [List.mem_cons] at hp
        rcases hp with rfl | rfl | rfl | rfl | hp
        · exact ⟨nh, nha⟩
        · exact ⟨nwH, nwa⟩
        · exact all4 _ npp
        · exact all4 _ np5
        · exact all4 _ (r5 _ hp).1
      · simp only [List.nodup_cons, List.mem_cons, not_or]
        refine ⟨⟨hhw, fun z => h4 (z ▸ npp), fun z => h4 (z ▸ np5), fun z => h4 (r5 _ z).1⟩, ⟨fun z => w4' (z ▸ npp), fun z => w4' (z ▸ np5), fun z => w4' (r5 _ z).1⟩, ⟨fun z => ?_, nd.1⟩, fun z => ?_, nd.2⟩
        · rw [← z, e5] at nps
          cases nps
        · obtain ⟨vs', ev, _⟩ := (r5 _ z).2
          rw [ev] at nps
          cases nps
    generalize upd H5 ps (.lst []) = H6 at F0
    -- all spots
    have q16 : ∀ {H'}, Same (hid a H) (hid a H') → SqL K H' p1 xs1 := fun s => (s.trans hid_same).seq (SqL.of e1)
    have q26 : ∀ {H'}, Same (hid a H) (hid a H') → SqL K H' p2 xs2 := fun s => (s.trans hid_same).seq (SqL.of e2)
    refine ⟨_, rfl, p1, xs1, rfl, .inl (q16 F0.same), _, rfl, by omega, by rw [a1.1]; omega, for_range (fun i σ H' => ∃ z7 z8 z9 z10, σ = [some (.ref a), some (.ref p1), some (.ref p2), some (.ref ph), some (.ref pw), some (.ref pp), some (.ref ps), z7, z8, z9, z10] ∧ FillAt H a (n + 150) pl.length ql.length ph pw pp ps rs (at0 pl) (at0 ql) (fun _ _ => 0) (spotsTo ql.length i) H') ⟨_, _, _, _, rfl, F0⟩ (fun i σ H' hi h => ?_) (fun σ H' h => ?_)⟩
    · obtain ⟨z7, z8, z9, z10, rfl, F⟩ := h
      obtain ⟨sv0, esv0, _⟩ := F.spots
      refine ⟨_, rfl, .inl ⟨rfl, _, SqL.of esv0⟩, _, rfl, p2, xs2, rfl, .inl (q26 F.same), _, rfl, by omega, by rw [a2.1]; omega, fun D nD => lc_allR (fun j y G => IsTup2 G y (i : Int) (j : Int)) (fun _ _ _ _ s h => h.mono s) nD (by rw [Int.toNat_natCast, a2.1]; omega) (fun j H7 kk hj s7 eD hk => ?_) (fun H7 ys s7 e7 l7 r7 => ?_)⟩
      · refine ⟨rfl, _, rfl, _, rfl, by show 2 ≤ sizeLine; decide, fun t nt => ?_⟩
        have st := same_upd (o := .tup [.int (0 + (i : Int)), .int (0 + (j : Int))]) nt
        refine hk _ _ st (IsTup2.hidL ?_ ⟨t, rfl, ?_⟩)
        · obtain ⟨ys', e'⟩ := eD
          exact ⟨ys', st _ _ e'⟩
        · rw [upd_same, Int.zero_add, Int.zero_add]
      · have s77 : Same H' H7 := s7.trans hid_same
        have F7 := F.keep (hid_mono s77) (F.well.same s77)
        obtain ⟨sv, esv, asv⟩ := F7.spots
        have lsv : sv.length ≤ 144 := by
          rw [asv.1, spotsTo_len]
          have : i < 12 := by rw [a1.1] at hi; omega
          exact Nat.mul_le_mul (Nat.le_of_lt this) k12
        refine ⟨ps, D, sv, ys, rfl, rfl, esv, e7, Nat.le_of_lt (small1000 (by rw [l7, Int.toNat_natCast, a2.1]; omega)), ?_⟩
        refine ⟨_, _, _, _, rfl, ?_⟩
        have := F7.ext (more := (List.range ql.length).map fun y => (i, y)) esv (ys := ys) (.of_ix (by rw [l7, List.length_map, List.length_range, Int.toNat_natCast, a2.1]) fun j y hy => ⟨(i, j), ?_, (r7 j y hy).mono hid_same⟩)
        · exact this
        · have := (List.getElem?_eq_some_iff.mp hy).1
          rw [List.getElem?_map, List.getElem?_range (by rw [l7, Int.toNat_natCast, a2.1] at this; exact this)]
          rfl
    · obtain ⟨z7, z8, z9, z10, rfl, F⟩ := h
      rw [Int.toNat_natCast, a1.1] at F
      obtain ⟨S, S0, S1, M0⟩ := FillM.start okp okq
      have l0 : (spotsTo ql.length pl.length).length ≤ 144 := by
        rw [spotsTo_len]
        exact Nat.mul_le_mul m12 k12
      -- filling
      refine ⟨fun c σ H' => ∃ z7 z8 z9 z10 h g Tb sp, σ = [some (.ref a), some (.ref p1), some (.ref p2), some (.ref ph), some (.ref pw), some (.ref pp), some (.ref ps), z7, z8, z9, z10] ∧ c = sp.length ∧ sp.length ≤ 144 ∧ FillAt H a (n + sp.length) pl.length ql.length ph pw pp ps rs h g Tb sp H' ∧ FillM pl.length ql.length (at0 pl) (at0 ql) S h g Tb sp, ⟨_, _, _, _, _, _, _, _, _, rfl, rfl, l0, F.keep (Same.refl _) (F.well.mono (by omega)), M0⟩, fun c σ H' hW => ?_⟩
      obtain ⟨z7, z8, z9, z10, h, g, Tb, sp, rfl, rfl, l1, F, M⟩ := hW
      obtain ⟨sv, esv, asv⟩ := F.spots
      refine ⟨_, rfl, Nat.zero_le _, fun e0 n0 => ?_⟩
      have sE := same_upd (o := .lst []) n0
      have F := F.keep (hid_mono sE) (F.well.same sE)
      have esv := sE _ _ esv
      have asv := asv.imp fun _ _ r => r.mono sE
      refine ⟨ps, e0, sv, rfl, rfl, SqL.of esv, sqL_new, _, rfl, ite2 (fun hb => ?_) (fun hb => ?_)⟩
      · have hne : sp ≠ [] := fun z => by
          rw [z] at asv
          have : sv = [] := List.length_eq_zero_iff.mp asv.1
          subst this
          exact absurd hb (by simp)
        have lpos : 0 < sp.length := List.length_pos_iff.mpr hne
        generalize upd H' e0 (.lst []) = H8 at *
        refine ⟨fun σ H' => ∃ z7 z8 z9 z10 h g Tb sp', σ = [some (.ref a), some (.ref p1), some (.ref p2), some (.ref ph), some (.ref pw), some (.ref pp), some (.ref ps), z7, z8, z9, z10] ∧ sp'.length + 1 = sp.length ∧ FillAt H a (n + sp'.length) pl.length ql.length ph pw pp ps rs h g Tb sp' H' ∧ FillM pl.length ql.length (at0 pl) (at0 ql) S h g Tb sp', fun σ' H'' hN => ?_, ?_⟩
        · obtain ⟨z7, z8, z9, z10, h, g, Tb, sp', rfl, l2, F2, M2⟩ := hN
          exact ⟨_, by omega, _, _, _, _, _, _, _, _, rfl, rfl, by omega, F2, M2⟩
        · -- a spot is drawn
          refine ⟨_, rfl, .inl ⟨rfl, _, SqL.of esv⟩, _, rfl, _, rfl, ps, sv, rfl, .inl (SqL.of esv), a, (sv.length : Nat), n + sp.length - 1, rfl, F.well.mono (by omega), by rw [asv.1]; omega, log_small (by rw [asv.1]; omega), fun d H9 d0 d1 s9 w9 => ?_⟩
          have F9 := F.keep s9 w9
          obtain ⟨sv', esv9, asv9⟩ := F9.spots
          have esame : sv' = sv := by
            have := s9 ps _ (by rw [hid_ne (F.new ps (by simp)).2]; exact esv)
            rw [hid_ne (F.new ps (by simp)).2, esv9] at this
            cases this
            rfl
          subst esame
          have hd : d.toNat < sv'.length := by omega
          obtain ⟨⟨x, y⟩, hxy, ⟨pt, ept, ht⟩⟩ := asv9.at (List.getElem?_eq_getElem hd)
          obtain ⟨hx, hy⟩ := M.inb _ (List.mem_of_getElem? hxy)
          simp only at hx hy ht
          refine ⟨ps, sv', d, d.toNat, _, rfl, rfl, esv9, by omega, by rw [asv.1] at d1; omega, ?_, List.getElem?_eq_getElem hd, ?_⟩
          · have h1 : ¬ d < 0 := by omega
            simp only [seqIndex?, if_neg h1, decide_eq_true d0, decide_eq_true d1, Bool.and_self, if_true]
          have F10 := F9.pop (j := d.toNat) esv9
          have t10 : TS H9 _ := TS.lst (o := .lst (sv'.eraseIdx d.toNat)) esv9
          have ht := t10 _ _ ht
          rw [ept]
          generalize upd H9 ps (.lst (sv'.eraseIdx d.toNat)) = H10 at *
          refine ⟨pt, _, rfl, .inl (.inl ht), rfl, _, _, rfl, _, _, rfl, rfl, ?_⟩
          -- how much
          obtain ⟨hvs, hv1, eh, lh, gh, ih⟩ := F10.have_.at hx
          obtain ⟨wvs, wv1, ew, lw, gw, iw⟩ := F10.want.at hy
          have bh : Bd 4000 (h x) := (bd_frac (M.h0 x hx).1 (M.h0 x hx).2.1 S0 S1 (M.h0 x hx).2.2).mono (by decide)
          have bw : Bd 4000 (g y) := (bd_frac (M.g0 y hy).1 (M.g0 y hy).2.1 S0 S1 (M.g0 y hy).2.2).mono (by decide)
          have ixn : ∀ {l : List V} {j : Nat}, j < l.length → ixN l.length (j : Int) = some j := fun {l j} hj => by
            unfold ixN
            rw [if_pos (by omega), if_pos (by omega), Int.toNat_natCast]
          refine ⟨_, rfl, _, rfl, pw, _, _, _, rfl, rfl, SqL.of ew, atI_nat gw, _, rfl, _, rfl, ph, _, _, _, rfl, rfl, SqL.of eh, atI_nat gh, _, _, _, _, rfl, iw, ih, bw, bh, _, rfl, ?_⟩
          refine (if hlt : g y < h x then ?_ else ?_)
          rw [decide_eq_true hlt]
          refine iteT ⟨_, rfl, _, rfl, pw, _, _, _, rfl, rfl, SqL.of ew, atI_nat gw, ?_⟩
          obtain ⟨z, ⟨pA, epA, hA⟩, bz, ez⟩ : ∃ z, IsPr H10 wv1 z ∧ Bd 4000 z ∧ z = (if g y < h x then g y else h x) := ⟨_, iw, bw, (if_pos hlt).symm⟩
          rotate_left
          rw [decide_eq_false hlt]
          refine iteF ⟨_, rfl, _, rfl, ph, _, _, _, rfl, rfl, SqL.of eh, atI_nat gh, ?_⟩
          obtain ⟨z, ⟨pA, epA, hA⟩, bz, ez⟩ : ∃ z, IsPr H10 hv1 z ∧ Bd 4000 z ∧ z = (if g y < h x then g y else h x) := ⟨_, ih, bh, (if_neg hlt).symm⟩
          all_goals rw [epA]
          all_goals clear hlt epA
          all_goals (
            -- it is put
            have hxr : x < rs.length := by rw [F10.rlen]; exact hx
            have hr : rs[x]? = some rs[x] := List.getElem?_eq_getElem hxr
            obtain ⟨rvs, rv1, er, lr, _, _⟩ := (F10.rows x _ hr).at hy
            refine ⟨_, rfl, _, rfl, _, rfl, pp, _, _, _, rfl, rfl, SqL.of F10.tab, atI_nat (by rw [List.getElem?_map, hr]; rfl), _, rfl, rs[x], rvs, _, y, rfl, rfl, er, ixn (by omega), ?_⟩
            have F11 := F10.setR (y := y) hr er (v := .ref pA) (z := z) ⟨pA, rfl, hA⟩
            have hA := TS.lst (o := .lst (rvs.set y (.ref pA))) er _ _ hA
            generalize upd H10 rs[x] (.lst (rvs.set y (.ref pA))) = H11 at *
            clear eh lh gh ih ew lw gw iw
            -- less here
            have neg : ∀ {q : Rat}, Rat.divInt q.num (q.den : Int) + Rat.divInt (0 - z.num) (z.den : Int) = q - z := fun {q} => by
              rw [Int.zero_sub, ← Rat.neg_divInt, divInt_self, divInt_self, ← Rat.sub_eq_add_neg]
            have lz : (0 - z.num).natAbs < 2 ^ 4000 := by
              have := bz.num
              rw [Int.zero_sub, Int.natAbs_neg]
              exact this
            obtain ⟨hvs, hv1, eh, lh, gh, ih⟩ := F11.have_.at hx
            refine ⟨_, rfl, _, rfl, ph, _, _, _, rfl, rfl, SqL.of eh, atI_nat gh, _, rfl, pA, _, _, _, rfl, rfl, .inl (.inl hA), atI_nat (j := 0) rfl, _, _, rfl, rfl, _, rfl, pA, _, _, _, rfl, rfl, .inl (.inl hA), atI_nat (j := 1) rfl, by show 2 ≤ sizeLine; decide, fun t nt => ?_⟩
            have st := same_upd (o := .tup [.int (0 - z.num), .int (z.den : Int)]) nt
            refine ⟨_, _, _, _, _, _, rfl, ih.mono st, ⟨t, rfl, upd_same⟩, bh.num, den_abs bh, lz, den_abs bz, den_ne _, den_ne _, fun H13 r13 s13 h13 => ?_⟩
            have h13 : IsPr H13 r13 (h x - z) := by rw [← neg]; exact h13
            have s1113 := st.trans s13
            have F13 := F11.keep (hid_mono s1113) (F11.well.same s1113)
            have eh := s1113 _ _ eh
            have hA := s1113 _ _ hA
            refine ⟨_, rfl, _, rfl, ph, hvs, _, x, rfl, rfl, eh, ixn (by omega), ?_⟩
            have F14 := F13.setH (j := x) eh h13
            have hA := TS.lst (o := .lst (hvs.set x r13)) eh _ _ hA
            generalize upd H13 ph (.lst (hvs.set x r13)) = H14 at *
            -- less there
            obtain ⟨wvs, wv1, ew, lw, gw, iw⟩ := F14.want.at hy
            refine ⟨_, rfl, _, rfl, pw, _, _, _, rfl, rfl, SqL.of ew, atI_nat gw, _, rfl, pA, _, _, _, rfl, rfl, .inl (.inl hA), atI_nat (j := 0) rfl, _, _, rfl, rfl, _, rfl, pA, _, _, _, rfl, rfl, .inl (.inl hA), atI_nat (j := 1) rfl, by show 2 ≤ sizeLine; decide, fun t' nt' => ?_⟩
            have st' := same_upd (o := .tup [.int (0 - z.num), .int (z.den : Int)]) nt'
            refine ⟨_, _, _, _, _, _, rfl, iw.mono st', ⟨t', rfl, upd_same⟩, bw.num, den_abs bw, lz, den_abs bz, den_ne _, den_ne _, fun H15 r15 s15 h15 => ?_⟩
            have h15 : IsPr H15 r15 (g y - z) := by rw [← neg]; exact h15
            have s1415 := st'.trans s15
            have F15 := F14.keep (hid_mono s1415) (F14.well.same s1415)
            have ew := s1415 _ _ ew
            refine ⟨_, rfl, _, rfl, pw, wvs, _, y, rfl, rfl, ew, ixn (by omega), ?_⟩
            have F16 := F15.setW (j := y) ew h15
            have dl : d.toNat < sp.length := (List.getElem?_eq_some_iff.mp hxy).1
            have le := List.length_eraseIdx_of_lt dl
            exact ⟨_, _, _, _, _, _, _, _, rfl, by rw [le]; omega, F16.keep (Same.refl _) (F16.well.mono (by rw [le]; omega)), M.step S0 hxy ez⟩)
      · have hsp : sp = [] := by
          have : sv = [] := by
            cases sv with
            | nil => rfl
            | cons _ _ => exact absurd rfl hb
          rw [this] at asv
          exact List.length_eq_zero_iff.mp asv.1.symm
        subst hsp
        have tot : rsumN pl.length (at0 pl) = rsumN ql.length (at0 ql) := by
          rw [rsumN_at0, rsumN_at0, okp.one, okq.one]
        obtain ⟨er, ec⟩ := M.end_ tot
        have np := F.new pp (by simp)
        refine ⟨_, rfl, q _ pp _ Tb np.1 F.same F.well (by rw [hid_ne np.2]; exact F.tab) (.of_ix (by simp [tblOf, F.rlen]) fun i v hv => ?_) (fun y hy => ?_) ⟨er, ec, fun x y hx hy => ⟨(M.t0 x y hx hy).1, bd_frac (M.t0 x y hx hy).1 (M.t0 x y hx hy).2.1 S0 S1 (M.t0 x y hx hy).2.2⟩, ⟨S, S0, S1, fun x y hx hy => (M.t0 x y hx hy).2⟩⟩⟩
        · rw [List.getElem?_map] at hv
          obtain ⟨r, hr, rfl⟩ := Option.map_eq_some_iff.mp hv
          have hi := (List.getElem?_eq_some_iff.mp hr).1
          refine ⟨(List.range ql.length).map (Tb i), ?_, ((F.rows i r hr).hidN F.well (F.new r ?_).2).prs⟩
          · unfold tblOf
            rw [List.getElem?_map, List.getElem?_range (by rw [← F.rlen]; exact hi)]
            rfl
          · have := List.mem_of_getElem? hr
            simp [this]
        · obtain ⟨r, hr, rfl⟩ := List.mem_map.mp hy
          exact ⟨r, rfl, (F.new r (by simp [hr])).1⟩
end

end Fb

namespace Fb
open PySem PySem.Spec PyProof.Rows L2
section
variable {P : Program} {w : World} {K : PySem.W.Frag} {mg : Str → Option Value} {base : Heap}
/-! ### what a plan costs, by pairs (wider) -/
structure PlanM (pss : List (List Rat)) (S : Nat) : Prop where
  s0 : 0 < S
  s1 : S ≤ 100000000000000
  row : ∀ qs ∈ pss, qs.length ≤ 12 ∧ ∀ q ∈ qs, Nice S 1 q
def spCostL : Sp := fun vs H Q _ => ∃ (v u : V) (css pss : List (List Rat)) (k b S : Nat), vs = [v, u] ∧ IsTbl IsPrs H v css ∧ IsTbl IsPrs H u pss ∧ CostN css k b ∧ PlanM pss S ∧ css.length ≤ 12 ∧ css.length = pss.length ∧ (∀ (i : Nat) c p, css[i]? = some c → pss[i]? = some p → c.length = p.length) ∧
  ∀ H' r, Same H H' → IsPr H' r (dot css.flatten pss.flatten) → Q r H'
theorem prod_nice {css pss : List (List Rat)} {k b S : Nat} (C : CostN css k b) (N : PlanM pss S) {c p : List Rat} (hc : c ∈ css) (hp : p ∈ pss) : ∀ q ∈ List.zipWith (· * ·) c p, Nice (b * S) 1000000000 q := fun q hq => by
  obtain ⟨x, hx, y, hy, rfl⟩ := mem_zip hq
  have := ((C.row c hc).2 x hx).mul ((N.row p hp).2 y hy)
  rwa [Nat.mul_one] at this
theorem bS_bd {b S : Nat} (b0 : 0 < b) (b1 : b ≤ 12) (s0 : 0 < S) (s1 : S ≤ 100000000000000) {M : Nat} (hM : M ≤ 144000000000) {q : Rat} (h : Nice (b * S) M q) : Bd 100 q := by
  have hb : b * S ≤ 12 * 100000000000000 := Nat.mul_le_mul b1 s1
  have hm : M * (b * S) ≤ 144000000000 * (12 * 100000000000000) := Nat.mul_le_mul hM hb
  exact h.bd (Nat.mul_pos b0 s0) (by omega) (by omega)
theorem dot_nice {css pss : List (List Rat)} {k b S : Nat} (C : CostN css k b) (N : PlanM pss S) {c p : List Rat} (hc : c ∈ css) (hp : p ∈ pss) : Nice (b * S) 12000000000 (dot c p) := by
  have := Nice.rsum (Nat.mul_pos C.b0 N.s0) (prod_nice C N hc hp)
  refine this.mono (Nat.dvd_refl _) ?_
  have l : (List.zipWith (· * ·) c p).length ≤ 12 := by
    rw [List.length_zipWith]
    have := (N.row p hp).1
    omega
  exact Nat.mul_le_mul_left 1000000000 l
theorem ok_l_cost (T : Txt K mg) : FnOk P w K mg base CX0 4 T.f_l_cost T.d_l_cost ["_law_costs_here", "_law_plan"] spCostL := by
  refine T.F_l_cost.ok sc_l_cost (fun vs H Q E h => ?_) (fun cdv A outer s H vs Q E hr h => ?_)
  · obtain ⟨v, u, css, pss, k, b, S, rfl, _⟩ := h
    rfl
  · obtain ⟨v, u, css, pss, k, b, S, rfl, ⟨p1, vs1, rfl, e1, a1⟩, ⟨p2, vs2, rfl, e2, a2⟩, C, N, c12, lcp, lrow, q⟩ := h
    refine ⟨_, (pss_cons (ps_set (i := 2) sc_l_cost.nd rfl (.inl rfl) (pe_tup (pa_cons pe_int (pa_cons pe_int pa_nil))))
 (pss_cons (ps_for PassesOwn.never rfl (pi_zip (by rfl) T.z_zip (pa_cons (pv 0) (pa_cons (pv 1) pa_nil))) (pg_tup (by rfl) (pgs_cons (pg_name (i := 3) sc_l_cost.nd rfl (.inl rfl)) (pgs_cons (pg_name (i := 4) sc_l_cost.nd rfl (.inl rfl)) pgs_nil)))
  (pss_one (ps_set (i := 2) sc_l_cost.nd rfl (.inl rfl) (pe_call (ok_l_added T) (hr.mono (by decide)) (by rfl) T.g_l_added T.F_l_added.kp T.b_l_added .nil pass0 (pa_cons (pv 2) (pa_cons (pe_call (ok_l_total T) (hr.mono (by decide)) (by rfl) T.g_l_total T.F_l_total.kp T.b_l_total .nil pass0 (pa_cons (pe_lc (own := [("_law_cost_here", 5), ("_law_amount", 6)]) (g := (gTup K 2 (gCons (gName 5) (gCons (gName 6) gNil)))) (tt := tYes) (by rfl) sc_l_cost.nd (pi_zip (by rfl) T.z_zip (pa_cons (pv 3) (pa_cons (pv 4) pa_nil))) (blkOk_by (own := [("_law_cost_here", 5), ("_law_amount", 6)]) (N := ["_law_costs_here", "_law_plan", "_law_found", "_law_row", "_law_amounts", "_law_cost_here", "_law_amount"]) (sc := defScope s_l_cost) (by decide +kernel)) (fun _ _ _ _ _ => by exact (pg_tup (by rfl) (pgs_cons (pg_name (i := 5) sc_l_cost.nd rfl (.inl rfl)) (pgs_cons (pg_name (i := 6) sc_l_cost.nd rfl (.inl rfl)) pgs_nil)))) (fun _ _ _ _ _ => by exact pts_nil) (fun _ _ _ _ _ => by exact (pe_call (ok_l_by T) (hr.mono (by decide)) (by rfl) T.g_l_by T.F_l_by.kp T.b_l_by .nil pass0 (pa_cons (pv 5) (pa_cons (pv 6) pa_nil))))) pa_nil)) pa_nil))))))
 (pss_one (ps_ret (pv 2))))), ?_⟩
    refine ⟨by show 2 ≤ sizeLine; decide, fun t nt => ?_⟩
    have st := same_upd (o := .tup [.int 0, .int 1]) nt
    have zr : ∀ (i : Nat), Nice (b * S) 144000000000 (rsum ((List.zipWith dot css pss).take i)) := fun i => by
      have : ∀ z ∈ (List.zipWith dot css pss).take i, Nice (b * S) 12000000000 z := fun z hz => by
        obtain ⟨j, hj, e⟩ := List.mem_iff_getElem.mp (List.mem_of_mem_take hz)
        rw [List.getElem_zipWith] at e
        rw [← e]
        exact dot_nice C N (List.getElem_mem _) (List.getElem_mem _)
      refine (Nice.rsum (Nat.mul_pos C.b0 N.s0) this).mono (Nat.dvd_refl _) ?_
      have l : ((List.zipWith dot css pss).take i).length ≤ 12 := by
        rw [List.length_take, List.length_zipWith]
        omega
      exact Nat.mul_le_mul_left 12000000000 l
    refine ⟨_, rfl, _, rfl, p1, p2, vs1, vs2, rfl, SqL.of (st _ _ e1), SqL.of (st _ _ e2), RZ.for_zipL (K := K) (a := p1) (b := p2) (xs := vs1) (ys := vs2) (by rw [a1.1, a2.1, lcp]) (fun i σ H' => ∃ f y3 y4 y5 y6, σ = [some (.ref p1), some (.ref p2), some f, y3, y4, y5, y6] ∧ Same H H' ∧ IsPr H' f (rsum ((List.zipWith dot css pss).take i))) ⟨_, _, _, _, _, rfl, st, t, rfl, upd_same⟩ (fun i σ H' h => ?_) (fun i x y T1 σ H' hx hy h nT => ?_) (fun σ H' h => ?_)⟩
    · obtain ⟨_, _, _, _, _, _, s1, _⟩ := h
      exact ⟨s1.seq (SqL.of e1), s1.seq (SqL.of e2)⟩
    · obtain ⟨f, y3, y4, y5, y6, rfl, s1, hf⟩ := h
      have sT := same_upd (o := .tup [x, y]) nT
      obtain ⟨c, hc, pr, rvs, rfl, er, ar⟩ := a1.at hx
      obtain ⟨pp, hp, pa, avs, rfl, ea, aa⟩ := a2.at hy
      have sA := s1.trans sT
      have er' := sA _ _ er
      have ea' := sA _ _ ea
      have mc := List.mem_of_getElem? hc
      have mp := List.mem_of_getElem? hp
      refine ⟨T1, _, rfl, .inl (.inl upd_same), rfl, _, _, rfl, _, _, rfl, rfl, ?_⟩
      refine ⟨_, rfl, _, rfl, _, rfl, pr, pa, _, _, rfl, SqL.of er', SqL.of ea', fun D nD => lc_allW (walk_zip (K := K) (a := pr) (b := pa) (xs := rvs) (ys := avs) (n := (List.zipWith (· * ·) c pp).length) (by rw [List.length_zipWith, ar.1, aa.1])) (fun i y G => ∃ z, (List.zipWith (· * ·) c pp)[i]? = some z ∧ IsPr G y z) (fun _ _ _ _ s h => h.elim fun z f => ⟨z, f.1, f.2.mono s⟩) nD (fun H' s => ⟨s.seq (SqL.of er'), s.seq (SqL.of ea')⟩) (by rw [List.length_zipWith]; have := (N.row _ mp).1; omega) (fun j x H3 H4 kk hj s3 eD y hk => ?_) (fun H3 ys s3 e3 l3 r3 => ?_)⟩
      · obtain ⟨T2, x1, x2, rfl, nT2, rfl, hx1, hx2⟩ := y
        have hx1 : rvs[j]? = some x1 := hx1
        have hx2 : avs[j]? = some x2 := hx2
        obtain ⟨z1, hz1, g1⟩ := ar.at hx1
        obtain ⟨z2, hz2, g2⟩ := aa.at hx2
        have sT2 := same_upd (o := .tup [x1, x2]) nT2
        have sB := sA.trans (s3.trans (hid_same.trans sT2))
        have b1 : Bd 4000 z1 := (((C.row c mc).2 z1 (List.mem_of_getElem? hz1)).bd C.b0 (n := 60) (by have := C.b1; omega) (by have := C.b1; omega)).mono (by decide)
        have b2 : Bd 4000 z2 := (((N.row pp mp).2 z2 (List.mem_of_getElem? hz2)).bd N.s0 (n := 60) (by have := N.s1; omega) (by have := N.s1; omega)).mono (by decide)
        refine ⟨T2, _, rfl, .inl (.inl upd_same), rfl, _, _, rfl, _, _, rfl, rfl, wipe2 (by decide) (by decide), ?_⟩
        refine ⟨_, rfl, _, rfl, spTwo.mk (E := E0) (g1.mono sB) (g2.mono sB) b1 b2 fun H5 r5 s5 h5 => hk _ _ (sT2.trans s5) ⟨z1 * z2, ?_, IsPr.hidL ?_ h5⟩⟩
        · rw [List.getElem?_zipWith, hz1, hz2]
        · obtain ⟨ys', e'⟩ := eD
          exact ⟨ys', s5 _ _ (sT2 _ _ e')⟩
      · have s13 : Same H' H3 := sT.trans (s3.trans hid_same)
        have pn := prod_nice C N mc mp
        refine ⟨_, List.zipWith (· * ·) c pp, 100, rfl, ⟨D, ys, rfl, e3, .of_ix l3 fun j y hy => ?_⟩, fun q hq => bS_bd C.b0 C.b1 N.s0 N.s1 (by decide) (pn q hq), ?_, by decide, fun H5 r5 s5 h5 => ?_⟩
        · obtain ⟨z, hz, g⟩ := r3 j y hy
          exact ⟨z, hz, g.mono hid_same⟩
        · have : (List.zipWith (· * ·) c pp).length ≤ 12 := by rw [List.length_zipWith]; have := (N.row _ mp).1; omega
          omega
        · have bf : Bd 4000 (rsum ((List.zipWith dot css pss).take i)) := (bS_bd C.b0 C.b1 N.s0 N.s1 (by decide) (zr i)).mono (by decide)
          have bd : Bd 4000 (dot c pp) := (bS_bd C.b0 C.b1 N.s0 N.s1 (by decide) (dot_nice C N mc mp)).mono (by decide)
          refine spTwo.mk (E := E0) (hf.mono (s13.trans s5)) h5 bf bd fun H6 r6 s6 h6 => ?_
          refine ⟨r6, _, _, _, _, rfl, s1.trans (s13.trans (s5.trans s6)), ?_⟩
          rw [rsum_take (z := dot c pp) (by rw [List.getElem?_zipWith, hc, hp])]
          exact h6
    · obtain ⟨f, y3, y4, y5, y6, rfl, s1, hf⟩ := h
      refine ⟨_, rfl, q H' f s1 ?_⟩
      rw [List.take_of_length_le (by rw [List.length_zipWith, a1.1]; omega), ← dot_rows lcp lrow] at hf
      exact hf
end

end Fb

namespace Fb
open PySem PySem.Spec PyProof.Rows L2
section
variable {P : Program} {w : World} {K : PySem.W.Frag} {mg : Str → Option Value} {base : Heap}
/-! ### plans mixed; whether a plan carries only where prices come to the cost -/
theorem cost_bd {css pss : List (List Rat)} {k b S : Nat} (C : CostG css k b) (N : PlanG pss S) (c12 : css.length ≤ 12) (k12 : k ≤ 12) : Bd 200 (dot css.flatten pss.flatten) := by
  have l1 : css.flatten.length ≤ 144 := Nat.le_trans (flat_len (k := 12) fun qs h => by rw [(C.row qs h).1]; exact k12) (Nat.mul_le_mul_right 12 c12)
  have C0 := C.b0
  have C1 := C.b1
  have N0 := N.s0
  have N1 := N.s1
  have e : b * S ≤ 1000000 * 10000000000 := Nat.mul_le_mul C1 N1
  have h : ∀ z ∈ List.zipWith (· * ·) css.flatten pss.flatten, Nice (b * S) 10000000000000000000000 z := fun z hz => by
    obtain ⟨x, hx, y, hy, rfl⟩ := mem_zip hz
    obtain ⟨r, hr, hx⟩ := mem_rows hx
    obtain ⟨r', hr', hy⟩ := mem_rows hy
    have := ((C.row r hr).2 x hx).mul ((N.row r' hr').2 y hy)
    rwa [Nat.mul_one] at this
  have n := Nice.rsum (Nat.mul_pos C0 N0) h
  have l : (List.zipWith (· * ·) css.flatten pss.flatten).length ≤ 144 := by rw [List.length_zipWith]; omega
  have n2 := n.mono (Nat.dvd_refl _) (Nat.mul_le_mul_left 10000000000000000000000 l)
  refine n2.bd (Nat.mul_pos C0 N0) (by omega) ?_
  have := Nat.mul_le_mul_left (10000000000000000000000 * 144) e
  exact Nat.lt_of_le_of_lt this (by decide)
theorem tabF_succ {N : Nat} {f : Nat → Nat → Rat} {i : Nat} : tabF (i + 1) N f = tabF i N f ++ [(List.range N).map (f i)] := by
  unfold tabF
  rw [List.range_succ, List.map_append]
  rfl
def spMixed : Sp := fun vs H Q _ => ∃ (v u r : V) (M N S S' : Nat) (X Y : Nat → Nat → Rat) (α : Rat), vs = [v, u, r] ∧ IsTbl IsPrs H v (tabF M N X) ∧ IsTbl IsPrs H u (tabF M N Y) ∧ IsPr H r α ∧ Nice 42 1 α ∧ M ≤ 12 ∧ N ≤ 12 ∧ 0 < S ∧ S ≤ 1000000 ∧ 0 < S' ∧ S' ≤ 1000000 ∧
  (∀ i, i < M → ∀ j, j < N → Nice S 1 (X i j)) ∧ (∀ i, i < M → ∀ j, j < N → Nice S' 1 (Y i j)) ∧
  ∀ H' p rvs, H p = none → Same H H' → H' p = some (.lst rvs) → AllAre (IsPrs H') rvs (tabF M N fun i j => α * X i j + (1 - α) * Y i j) → (∀ y ∈ rvs, ∃ q, y = .ref q ∧ H q = none) → Q (.ref p) H'
set_option maxHeartbeats 1600000 in
theorem ok_l_mixed (T : Txt K mg) : FnOk P w K mg base CX0 5 T.f_l_mixed T.d_l_mixed ["_law_one_here", "_law_other", "_law_part"] spMixed := by
  refine T.F_l_mixed.ok sc_l_mixed (fun vs H Q E h => ?_) (fun cdv A outer s H vs Q E hr h => ?_)
  · obtain ⟨v, u, r, M, N, S, S', X, Y, α, rfl, _⟩ := h
    rfl
  · obtain ⟨v, u, r, M, N, S, S', X, Y, α, rfl, ⟨p1, vs1, rfl, e1, a1⟩, ⟨p2, vs2, rfl, e2, a2⟩, hα, nα, M12, N12, S0, S1, S0', S1', nX, nY, q⟩ := h
    refine ⟨_, (pss_cons (ps_set (i := 3) sc_l_mixed.nd rfl (.inr rfl) (pe_call (ok_l_less T) (hr.mono (by decide)) (by rfl) T.g_l_less T.F_l_less.kp T.b_l_less .nil pass0 (pa_cons (pe_tup (pa_cons pe_int (pa_cons pe_int pa_nil))) (pa_cons (pv 2) pa_nil))))
 (pss_cons (ps_set (i := 4) sc_l_mixed.nd rfl (.inl rfl) (pe_lst pa_nil))
 (pss_cons (ps_for PassesOwn.never rfl (pi_zip (by rfl) T.z_zip (pa_cons (pv 0) (pa_cons (pv 1) pa_nil))) (pg_tup (by rfl) (pgs_cons (pg_name (i := 5) sc_l_mixed.nd rfl (.inl rfl)) (pgs_cons (pg_name (i := 6) sc_l_mixed.nd rfl (.inl rfl)) pgs_nil)))
  (pss_one (ps_expr (pe_bm PySem.F.plainAttrs_list PySem.F.slot_list_append PySem.F.type_list_append mt_append (pv 4) (pa_cons (pe_lc (own := [("_law_a", 7), ("_law_b", 8)]) (g := (gTup K 2 (gCons (gName 7) (gCons (gName 8) gNil)))) (tt := tYes) (by rfl) sc_l_mixed.nd (pi_zip (by rfl) T.z_zip (pa_cons (pv 5) (pa_cons (pv 6) pa_nil))) (blkOk_by (own := [("_law_a", 7), ("_law_b", 8)]) (N := ["_law_one_here", "_law_other", "_law_part", "_law_rest", "_law_found", "_law_row", "_law_more", "_law_a", "_law_b"]) (sc := defScope s_l_mixed) (by decide +kernel)) (fun _ _ _ _ _ => by exact (pg_tup (by rfl) (pgs_cons (pg_name (i := 7) sc_l_mixed.nd rfl (.inl rfl)) (pgs_cons (pg_name (i := 8) sc_l_mixed.nd rfl (.inl rfl)) pgs_nil)))) (fun _ _ _ _ _ => by exact pts_nil) (fun _ _ _ _ _ => by exact (pe_call (ok_l_added T) (hr.mono (by decide)) (by rfl) T.g_l_added T.F_l_added.kp T.b_l_added .nil pass0 (pa_cons (pe_call (ok_l_by T) (hr.mono (by decide)) (by rfl) T.g_l_by T.F_l_by.kp T.b_l_by .nil pass0 (pa_cons (pv 2) (pa_cons (pv 7) pa_nil))) (pa_cons (pe_call (ok_l_by T) (hr.mono (by decide)) (by rfl) T.g_l_by T.F_l_by.kp T.b_l_by .nil pass0 (pa_cons (pv 3) (pa_cons (pv 8) pa_nil))) pa_nil))))) pa_nil)))))
 (pss_one (ps_ret (pv 4)))))), ?_⟩
    have bα : Bd 100 α := nα.bd (by decide) (by decide) (by decide)
    refine ⟨by show 2 ≤ sizeLine; decide, fun t nt => ?_⟩
    have st := same_upd (o := .tup [.int 1, .int 1]) nt
    have h1 : IsPr (upd H t (.tup [.int 1, .int 1])) (.ref t) 1 := ⟨t, rfl, upd_same⟩
    refine ⟨_, rfl, spTwo.mk (E := E0) h1 (hα.mono st) ⟨by decide, by decide⟩ (bα.mono (by decide)) fun H2 r2 s2 h2 => ?_⟩
    have s02 := st.trans s2
    have bβ : Bd 103 (1 - α) := Bd.sub (n := 2) (m := 100) ⟨by decide, by decide⟩ bα
    refine ⟨by show 0 ≤ sizeLine; decide, fun D nD => ?_⟩
    have sD := same_upd (o := .lst []) nD
    have s03 := s02.trans sD
    have l1 : vs1.length = M := by rw [a1.1, tabF_len]
    have l2 : vs2.length = M := by rw [a2.1, tabF_len]
    refine ⟨_, rfl, _, rfl, p1, p2, vs1, vs2, rfl, SqL.of (s03 _ _ e1), SqL.of (s03 _ _ e2), RZ.for_zipL (K := K) (a := p1) (b := p2) (xs := vs1) (ys := vs2) (by rw [l1, l2]) (fun i σ H' => ∃ y5 y6 y7 y8 rvs, σ = [some (.ref p1), some (.ref p2), some r, some r2, some (.ref D), y5, y6, y7, y8] ∧ Same H2 H' ∧ H' D = some (.lst rvs) ∧ AllAre (IsPrs (hid D H')) rvs (tabF i N fun i j => α * X i j + (1 - α) * Y i j) ∧ ∀ y ∈ rvs, ∃ q, y = .ref q ∧ H q = none) ⟨_, _, _, _, [], rfl, sD, upd_same, .nil, fun y hy => by simp at hy⟩ (fun i σ H' h => ?_) (fun i x y T1 σ H' hx hy h nT => ?_) (fun σ H' h => ?_)⟩
    · obtain ⟨_, _, _, _, _, _, s3, _⟩ := h
      exact ⟨(s02.trans s3).seq (SqL.of e1), (s02.trans s3).seq (SqL.of e2)⟩
    · obtain ⟨y5, y6, y7, y8, rvs, rfl, s3, eD, aD, fr⟩ := h
      have iM : i < M := by rw [← l1]; exact (List.getElem?_eq_some_iff.mp hx).1
      obtain ⟨c, hc, pr, xvs, rfl, ex, ax⟩ := a1.at hx
      obtain ⟨c', hc', pr', yvs, rfl, ey, ay⟩ := a2.at hy
      rw [tabF_at iM] at hc hc'
      cases hc
      cases hc'
      have sT := same_upd (o := .tup [.ref pr, .ref pr']) nT
      have s0T := (s02.trans s3).trans sT
      have lx : xvs.length = N := by rw [ax.1, List.length_map, List.length_range]
      have ly : yvs.length = N := by rw [ay.1, List.length_map, List.length_range]
      refine ⟨T1, _, rfl, .inl (.inl upd_same), rfl, _, _, rfl, _, _, rfl, rfl, ?_⟩
      refine ⟨_, rfl, .inl ⟨rfl, _, SqL.of (sT _ _ eD)⟩, _, rfl, _, rfl, pr, pr', xvs, yvs, rfl, SqL.of (s0T _ _ ex), SqL.of (s0T _ _ ey), fun F nF => lc_allW (walk_zip (K := K) (a := pr) (b := pr') (xs := xvs) (ys := yvs) (n := N) (by omega)) (fun j y G => IsPr G y (α * X i j + (1 - α) * Y i j)) (fun _ _ _ _ s h => h.mono s) nF (fun H' s => ⟨s.seq (SqL.of (s0T _ _ ex)), s.seq (SqL.of (s0T _ _ ey))⟩) (by omega) (fun j x H4 H5 kk hj s4 eF y2 hk => ?_) (fun H4 fs s4 eF lf rf => ?_)⟩
      · obtain ⟨T2, x1, x2, rfl, nT2, rfl, hx1, hx2⟩ := y2
        have hx1 : xvs[j]? = some x1 := hx1
        have hx2 : yvs[j]? = some x2 := hx2
        obtain ⟨z1, hz1, g1⟩ := ax.at hx1
        obtain ⟨z2, hz2, g2⟩ := ay.at hx2
        rw [List.getElem?_map, List.getElem?_range hj] at hz1 hz2
        cases hz1
        cases hz2
        have bX : Bd 100 (X i j) := (nX i iM j hj).bd S0 (by omega) (by omega)
        have bY : Bd 100 (Y i j) := (nY i iM j hj).bd S0' (by omega) (by omega)
        have sT2 := same_upd (o := .tup [x1, x2]) nT2
        have sB := s0T.trans (s4.trans (hid_same.trans sT2))
        have sB2 := (s3.trans sT).trans (s4.trans (hid_same.trans sT2))
        refine ⟨T2, _, rfl, .inl (.inl upd_same), rfl, _, _, rfl, _, _, rfl, rfl, wipe2 (by decide) (by decide), ?_⟩
        refine ⟨_, look_out rfl (by decide) (by decide) (by decide), _, look_1 (by simp) (by decide), spTwo.mk (E := E0) (hα.mono sB) (g1.mono sB) (bα.mono (by decide)) (bX.mono (by decide)) fun H6 r6 s6 h6 => ?_⟩
        refine ⟨_, look_out rfl (by decide) (by decide) (by decide), _, look_2 (by simp), spTwo.mk (E := E0) ((h2.mono sB2).mono s6) ((g2.mono sB).mono s6) (bβ.mono (by decide)) (bY.mono (by decide)) fun H7 r7 s7 h7 => ?_⟩
        refine spTwo.mk (E := E0) (h6.mono s7) h7 ((bα.mul bX).mono (by decide)) ((bβ.mul bY).mono (by decide)) fun H8 r8 s8 h8 => hk _ _ (sT2.trans (s6.trans (s7.trans s8))) (IsPr.hidL ?_ h8)
        obtain ⟨ys', e'⟩ := eF
        exact ⟨ys', (s6.trans (s7.trans s8)) _ _ (sT2 _ _ e')⟩
      · have sF := s4.trans (hid_same (a := F))
        have eD4 := sF _ _ (sT _ _ eD)
        have nFD : F ≠ D := fun z => by
          rw [z, sT _ _ eD] at nF
          cases nF
        refine ⟨D, rvs, .ref F, rfl, rfl, eD4, small1000 (by rw [aD.1, tabF_len]; omega), ?_⟩
        have sU : Same H2 (upd H4 D (.lst (rvs ++ [.ref F]))) := same_over ((s3.trans sT).trans sF) nD
        refine ⟨_, _, _, _, rvs ++ [.ref F], rfl, sU, upd_same, ?_, fun y hy => ?_⟩
        rotate_left
        · rcases List.mem_append.mp hy with hy | hy
          · exact fr y hy
          · rw [List.mem_singleton.mp hy]
            exact ⟨F, rfl, none_back2 s0T nF⟩
        rw [hid_upd, tabF_succ]
        refine (aD.imp fun _ _ h => h.mono (hid_mono (sT.trans sF))).snoc ⟨F, fs, rfl, by rw [hid_ne nFD]; exact eF, .of_ix (by rw [lf, List.length_map, List.length_range]) fun j y hy => ?_⟩
        have hj := (List.getElem?_eq_some_iff.mp hy).1
        exact ⟨_, by rw [List.getElem?_map, List.getElem?_range (by omega)]; rfl, IsPr.hidL ⟨_, eD4⟩ ((rf j y hy).mono hid_same)⟩
    · obtain ⟨y5, y6, y7, y8, rvs, rfl, s3, eD, aD, fr⟩ := h
      rw [l1] at aD
      exact ⟨_, rfl, q H' D rvs (none_back2 s02 nD) (s02.trans s3) eD (aD.imp fun _ _ h => h.mono hid_same) fr⟩
/-- tight: a plan carries only where prices come to the cost -/
theorem num_pos0 (z : Rat) : 0 < z.num ↔ 0 < z := by
  rw [Rat.lt_iff]
  show (0 : Int) < z.num ↔ (0 : Int) * z.den < z.num * 1
  omega
theorem pr_ne {x y : Rat} (h : x ≠ y) : (x.num == y.num && (x.den : Int) == (y.den : Int)) = false := by
  cases e : (x.num == y.num && (x.den : Int) == (y.den : Int)) with
  | false => rfl
  | true =>
    rw [Bool.and_eq_true] at e
    have e1 := eq_of_beq e.1
    have e2 := eq_of_beq e.2
    exact absurd (Rat.ext e1 (by omega)) h
def Tight (M N : Nat) (c X : Nat → Nat → Rat) (h t : Nat → Rat) : Prop := ∀ i, i < M → ∀ j, j < N → 0 < X i j → h i - t j = c i j
def spTight : Sp := fun vs H Q _ => ∃ (cv xv : V) (pt : Addr) (hv tv : V) (css : List (List Rat)) (M N S : Nat) (X : Nat → Nat → Rat) (hs ts : List Rat), vs = [cv, xv, .ref pt] ∧ IsTbl IsPrs H cv css ∧ IsTbl IsPrs H xv (tabF M N X) ∧ H pt = some (.lst [hv, tv]) ∧ IsPrs H hv hs ∧ IsPrs H tv ts ∧ css.length = M ∧ (∀ l ∈ css, l.length = N ∧ ∀ q ∈ l, Bd 200 q) ∧ M ≤ 12 ∧ N ≤ 12 ∧ hs.length = M ∧ ts.length = N ∧ (∀ q ∈ hs, Bd 200 q) ∧ (∀ q ∈ ts, Bd 200 q) ∧
  ∀ H' (b : Bool), Same H H' → (b = true ↔ Tight M N (cAt css) X (at0 hs) (at0 ts)) → Q (.bl b) H'
set_option maxHeartbeats 1600000 in
theorem ok_l_tight (T : Txt K mg) : FnOk P w K mg base CX0 4 T.f_l_tight T.d_l_tight ["_law_costs_here", "_law_plan", "_law_prices"] spTight := by
  refine T.F_l_tight.ok sc_l_tight (fun vs H Q E h => ?_) (fun cdv A outer s H vs Q E hr h => ?_)
  · obtain ⟨cv, xv, pt, hv, tv, css, M, N, S, X, hs, ts, rfl, _⟩ := h
    rfl
  · obtain ⟨cv, xv, pt, hv, tv, css, M, N, S, X, hs, ts, rfl, ⟨pc, cvs, rfl, ec, ac⟩, ⟨px, xvs, rfl, ex, ax⟩, ept, ⟨ph, hvs, rfl, eh, ah⟩, ⟨pp, tvs, rfl, et, at'⟩, lc, rc, M12, N12, lh, lt, bh, bt, q⟩ := h
    refine ⟨_, (pss_cons (ps_for PassesOwn.never rfl (pi_enum (by rfl) T.z_enumerate (pa_cons (pv 1) pa_nil)) (pg_tup (by rfl) (pgs_cons (pg_name (i := 3) sc_l_tight.nd rfl (.inl rfl)) (pgs_cons (pg_name (i := 4) sc_l_tight.nd rfl (.inl rfl)) pgs_nil)))
  (pss_one (ps_for PassesOwn.never rfl (pi_enum (by rfl) T.z_enumerate (pa_cons (pv 4) pa_nil)) (pg_tup (by rfl) (pgs_cons (pg_name (i := 5) sc_l_tight.nd rfl (.inl rfl)) (pgs_cons (pg_name (i := 6) sc_l_tight.nd rfl (.inl rfl)) pgs_nil)))
  (pss_one (ps_if (PW.pt (pw_and (pt_cmpR op_gt (pe_ix ix_tup (pv 6) pe_int (fun _ _ => rfl)) pe_int (nomark _)) (pw_and1 (pt_cmpR (op_neD hr.units) (pe_call (ok_l_less T) (hr.mono (by decide)) (by rfl) T.g_l_less T.F_l_less.kp T.b_l_less .nil pass0 (pa_cons (pe_ix ix_list (pe_ix ix_list (pv 2) pe_int (fun _ _ => rfl)) (pv 3) (fun _ _ => rfl)) (pa_cons (pe_ix ix_list (pe_ix ix_list (pv 2) pe_int (fun _ _ => rfl)) (pv 5) (fun _ _ => rfl)) pa_nil))) (pe_ix ix_list (pe_ix ix_list (pv 0) (pv 3) (fun _ _ => rfl)) (pv 5) (fun _ _ => rfl)) (nomark _)))))
  (pss_one (ps_ret pe_bl))
  pss_nil)))))
 (pss_one (ps_ret pe_bl))), ?_⟩
    have lx : xvs.length = M := by rw [ax.1, tabF_len]
    refine ⟨_, rfl, px, _, rfl, SqL.of ex, for_it (walk_enum (K := K) (a := px) (xs := xvs)) (fun i σ H' => ∃ y3 y4 y5 y6, σ = [some (.ref pc), some (.ref px), some (.ref pt), y3, y4, y5, y6] ∧ Same H H' ∧ ∀ i', i' < i → ∀ j, j < N → 0 < X i' j → at0 hs i' - at0 ts j = cAt css i' j) ⟨_, _, _, _, rfl, .refl _, fun i hi => absurd hi (Nat.not_lt_zero _)⟩ (fun i σ H' _ h => ?_) (fun i x σ H' H2 hi h y => ?_) (fun σ H' h => ?_)⟩
    · obtain ⟨_, _, _, _, _, s1, _⟩ := h
      exact s1.seq (SqL.of ex)
    · obtain ⟨y3, y4, y5, y6, rfl, s1, ok⟩ := h
      obtain ⟨T1, x1, x2, rfl, nT1, rfl, hx1, hx2⟩ := y
      cases hx1
      have hx2 : xvs[i]? = some x2 := hx2
      have iM : i < M := by rw [← lx]; exact hi
      obtain ⟨r, hr', pr, rvs, rfl, er, ar⟩ := ax.at hx2
      rw [tabF_at iM] at hr'
      cases hr'
      have lr : rvs.length = N := by rw [ar.1, List.length_map, List.length_range]
      have sT := same_upd (o := .tup [.int (i : Nat), .ref pr]) nT1
      have s1T := s1.trans sT
      have hci := List.getElem?_eq_getElem (show i < cvs.length by rw [ac.1]; omega)
      obtain ⟨c, hc, pc', cis, eci, eic, aic⟩ := ac.at hci
      rw [eci] at hci
      have Rc := rc c (List.mem_of_getElem? hc)
      have hhi := List.getElem?_eq_getElem (show i < hvs.length by rw [ah.1]; omega)
      obtain ⟨zh, hzh, gh⟩ := ah.at hhi
      generalize hvs[i]'(by rw [ah.1]; omega) = vh at hhi gh
      refine ⟨T1, _, rfl, .inl (.inl upd_same), rfl, _, _, rfl, _, _, rfl, rfl, ?_⟩
      refine ⟨_, rfl, pr, _, rfl, SqL.of (s1T _ _ er), for_it (walk_enum (K := K) (a := pr) (xs := rvs)) (fun j σ H' => ∃ y5 y6, σ = [some (.ref pc), some (.ref px), some (.ref pt), some (.int (i : Nat)), some (.ref pr), y5, y6] ∧ Same H H' ∧ ∀ j', j' < j → 0 < X i j' → at0 hs i - at0 ts j' = cAt css i j') ⟨_, _, rfl, s1T, fun i hi => absurd hi (Nat.not_lt_zero _)⟩ (fun j σ H' _ h => ?_) (fun j x σ H' H2 hj h y => ?_) (fun σ H' h => ?_)⟩
      · obtain ⟨_, _, _, s2, _⟩ := h
        exact s2.seq (SqL.of er)
      · obtain ⟨y5, y6, rfl, s2, ok2⟩ := h
        obtain ⟨T2, x3, x4, rfl, nT2, rfl, hx3, hx4⟩ := y
        cases hx3
        have hx4 : rvs[j]? = some x4 := hx4
        have jN : j < N := by rw [← lr]; exact hj
        obtain ⟨xx, hxx, px', rfl, gx⟩ := ar.at hx4
        rw [List.getElem?_map, List.getElem?_range jN] at hxx
        cases hxx
        have sT2 := same_upd (o := .tup [.int (j : Nat), .ref px']) nT2
        have s3 := s2.trans sT2
        have hcj := List.getElem?_eq_getElem (show j < cis.length by rw [aic.1]; omega)
        obtain ⟨zc, hzc, gc⟩ := aic.at hcj
        generalize cis[j]'(by rw [aic.1]; omega) = vc at hcj gc
        have hti := List.getElem?_eq_getElem (show j < tvs.length by rw [at'.1]; omega)
        obtain ⟨zt, hzt, gt⟩ := at'.at hti
        generalize tvs[j]'(by rw [at'.1]; omega) = vt at hti gt
        have eC : cAt css i j = zc := cAt_of hc hzc
        have eHh : at0 hs i = zh := at0_of hzh
        have eTt : at0 ts j = zt := at0_of hzt
        refine ⟨T2, _, rfl, .inl (.inl upd_same), rfl, _, _, rfl, _, _, rfl, rfl, ?_⟩
        refine ⟨_, rfl, px', _, _, _, rfl, rfl, .inl (.inl (s3 _ _ gx)), atI_nat (j := 0) rfl, _, _, rfl, rfl, _, rfl, ite2 (fun hb => ?_) (fun hb => ?_)⟩
        · have hb : 0 < X i j := (num_pos0 _).mp (of_decide_eq_true hb)
          refine ⟨_, rfl, pt, _, _, _, rfl, rfl, SqL.of (s3 _ _ ept), atI_nat (j := 0) rfl, _, rfl, ph, _, _, _, rfl, rfl, SqL.of (s3 _ _ eh), atI_nat (j := i) hhi, _, rfl, pt, _, _, _, rfl, rfl, SqL.of (s3 _ _ ept), atI_nat (j := 1) rfl, _, rfl, pp, _, _, _, rfl, rfl, SqL.of (s3 _ _ et), atI_nat (j := j) hti, ?_⟩
          refine spTwo.mk (E := E0) (gh.mono s3) (gt.mono s3) ((bh zh (List.mem_of_getElem? hzh)).mono (by decide)) ((bt zt (List.mem_of_getElem? hzt)).mono (by decide)) fun H5 r5 s5 h5 => ?_
          refine ⟨_, rfl, _, rfl, pc, _, _, _, rfl, rfl, SqL.of ((s3.trans s5) _ _ ec), atI_nat (j := i) hci, _, rfl, pc', _, _, _, rfl, rfl, SqL.of ((s3.trans s5) _ _ eic), atI_nat (j := j) hcj, ?_⟩
          refine ⟨_, _, IsTup2.dp h5, IsTup2.dp (IsTup2.mono gc (s3.trans s5)), rfl, rfl, _, rfl, ?_⟩
          rw [eqv_tup2]
          by_cases he : zh - zt = zc
          · rw [he, beq_self_eq_true, beq_self_eq_true]
            refine iteF ⟨_, _, rfl, s3.trans s5, fun j' hj' x0 => ?_⟩
            by_cases e : j' = j
            · rw [e, eHh, eTt, eC]
              exact he
            · exact ok2 j' (by omega) x0
          · rw [pr_ne he]
            refine iteT (q H5 false (s3.trans s5) ⟨fun z => (nomatch z), fun t => absurd (t i iM j jN hb) (by rw [eHh, eTt, eC]; exact he)⟩)
        · have hb : ¬ 0 < X i j := fun z => hb (decide_eq_true ((num_pos0 _).mpr z))
          refine ⟨_, _, rfl, s3, fun j' hj' x0 => ?_⟩
          by_cases e : j' = j
          · rw [e] at x0
            exact absurd x0 hb
          · exact ok2 j' (by omega) x0
      · obtain ⟨y5, y6, rfl, s2, ok2⟩ := h
        rw [lr] at ok2
        refine ⟨_, _, _, _, rfl, s2, fun i' hi' => ?_⟩
        by_cases e : i' = i
        · rw [e]
          exact ok2
        · exact ok i' (by omega)
    · obtain ⟨y3, y4, y5, y6, rfl, s1, ok⟩ := h
      rw [lx] at ok
      exact q H' true s1 ⟨fun _ => ok, fun _ => rfl⟩
end

end Fb

namespace Fb
open PySem PySem.Spec PyProof.Rows L2
section
variable {P : Program} {w : World} {K : PySem.W.Frag} {mg : Str → Option Value} {base : Heap}
/-! ### prices, the first ones as great as can be; what prices bring -/
def spTop : Sp := fun vs H Q _ => ∃ (a : Addr) (v : V) (css : List (List Rat)) (k b n : Nat), vs = [.ref a, v] ∧ WellAt H a (n + 24) ∧ IsTbl IsPrs (hid a H) v css ∧ CostN css k b ∧ 0 < css.length ∧ css.length ≤ 12 ∧ 0 < k ∧ k ≤ 12 ∧
  ∀ H' p x y hs ts, Same (hid a H) (hid a H') → WellAt H' a n → H' p = some (.tup [x, y]) → IsPrs H' x hs → IsPrs H' y ts → hs.length = css.length → ts.length = k →
    (∀ q ∈ hs, Bd 100 q) → (∀ q ∈ ts, Bd 100 q) → (∀ i, i < css.length → ∀ j, j < k → at0 hs i - at0 ts j ≤ cAt css i j) → Q (.ref p) H'
set_option maxHeartbeats 1600000 in
theorem ok_l_top_prices (T : Txt K mg) : FnOk P w K mg base CX0 4 T.f_l_top_prices T.d_l_top_prices ["_law_well_here", "_law_costs_here"] spTop := by
  refine T.F_l_top_prices.ok sc_l_top_prices (fun vs H Q E h => ?_) (fun cdv A outer s H vs Q E hr h => ?_)
  · obtain ⟨a, v, css, k, b, n, rfl, _⟩ := h
    rfl
  · obtain ⟨a, v, css, k, b, n, rfl, hw, ⟨pc, cvs, rfl, hpc, ac⟩, C, c0, c12, k0, k12, q⟩ := h
    refine ⟨_, (pss_cons (ps_setLc (i := 2) (own := [("_law_cost_here", 6)]) (g := (gName 6)) (tt := tYes) (by rfl) sc_l_top_prices.nd rfl rfl (sw_true rfl rfl rfl (by decide +kernel)) (pi_list (pe_ix ix_list (pv 1) pe_int (fun _ _ => rfl))) (blkOk_by (own := [("_law_cost_here", 6)]) (N := ["_law_well_here", "_law_costs_here", "_law_there", "_law_here", "_law_row", "_law_most", "_law_cost_here", "_law_price", "_law_one_here"]) (sc := defScope s_l_top_prices) (by decide +kernel)) (fun _ _ _ _ _ => by exact (pg_name (i := 6) sc_l_top_prices.nd rfl (.inl rfl))) (fun _ _ _ _ _ => by exact pts_nil) (fun _ _ _ _ _ => by exact (pe_call (ok_l_low T) (hr.mono (by decide)) (by rfl) T.g_l_low T.F_l_low.kp T.b_l_low .nil pass0 (pa_cons (pe_op op_sub (pe_call (ok_l_draw T) (hr.mono (by decide)) (by rfl) T.g_l_draw T.F_l_draw.kp T.b_l_draw .nil pass0 (pa_cons (pv 0) (pa_cons pe_int pa_nil))) pe_int) (pa_cons (pe_op op_add pe_int (pe_call (ok_l_draw T) (hr.mono (by decide)) (by rfl) T.g_l_draw T.F_l_draw.kp T.b_l_draw .nil pass0 (pa_cons (pv 0) (pa_cons pe_int pa_nil)))) pa_nil)))))
 (pss_cons (ps_set (i := 3) sc_l_top_prices.nd rfl (.inl rfl) (pe_lst pa_nil))
 (pss_cons (ps_for PassesOwn.never rfl (pi_list (pv 1)) (pg_name (i := 4) sc_l_top_prices.nd rfl (.inl rfl))
  (pss_cons (ps_set (i := 5) sc_l_top_prices.nd rfl (.inl rfl) (pe_call (ok_l_added T) (hr.mono (by decide)) (by rfl) T.g_l_added T.F_l_added.kp T.b_l_added .nil pass0 (pa_cons (pe_ix ix_list (pv 4) pe_int (fun _ _ => rfl)) (pa_cons (pe_ix ix_list (pv 2) pe_int (fun _ _ => rfl)) pa_nil))))
 (pss_cons (ps_for PassesOwn.never rfl (pi_zip (by rfl) T.z_zip (pa_cons (pv 4) (pa_cons (pv 2) pa_nil))) (pg_tup (by rfl) (pgs_cons (pg_name (i := 6) sc_l_top_prices.nd rfl (.inl rfl)) (pgs_cons (pg_name (i := 7) sc_l_top_prices.nd rfl (.inl rfl)) pgs_nil)))
  (pss_cons (ps_set (i := 8) sc_l_top_prices.nd rfl (.inl rfl) (pe_call (ok_l_added T) (hr.mono (by decide)) (by rfl) T.g_l_added T.F_l_added.kp T.b_l_added .nil pass0 (pa_cons (pv 6) (pa_cons (pv 7) pa_nil))))
 (pss_one (ps_set (i := 5) sc_l_top_prices.nd rfl (.inl rfl) (pe_ifExp (pt_val (pe_call (ok_l_below T) (hr.mono (by decide)) (by rfl) T.g_l_below T.F_l_below.kp T.b_l_below .nil pass0 (pa_cons (pv 8) (pa_cons (pv 5) pa_nil)))) (pv 8) (pv 5))))))
 (pss_one (ps_expr (pe_bm PySem.F.plainAttrs_list PySem.F.slot_list_append PySem.F.type_list_append mt_append (pv 3) (pa_cons (pv 5) pa_nil)))))))
 (pss_one (ps_ret (pe_tup (pa_cons (pv 3) (pa_cons (pv 2) pa_nil)))))))), ?_⟩
    have b0 := C.b0
    have b1 := C.b1
    have lc0 : 0 < cvs.length := by rw [ac.1]; exact c0
    obtain ⟨qs0, hqs0, pr0, rvs0, er0, hr0, ar0⟩ := ac.at (List.getElem?_eq_getElem lc0)
    have lr0 : rvs0.length = k := by rw [ar0.1, (C.row _ (List.mem_of_getElem? hqs0)).1]
    refine ⟨_, rfl, pc, cvs, _, _, rfl, rfl, SqL.of (hid_same _ _ hpc), atI_nat (j := 0) (List.getElem?_eq_getElem lc0), ?_⟩
    rw [er0]
    refine ⟨pr0, rfl, ⟨_, SqL.of (hid_same _ _ hr0)⟩, fun D nD => lc_wellW (a := a) (walk_list (K := K) (a := pr0) (xs := rvs0)) (fun y G => ∃ q : Rat, IsPr G y q ∧ Nice 12 20 q) (fun _ _ _ s h => h.elim fun q h => ⟨q, h.1.mono s, h.2⟩) 2 n nD (hw.mono (by omega)) (by omega) (fun H' s => (s.trans hid_same).seq (SqL.of hr0)) (fun i x H2 H3 m kk hi w2 s2 eD y hk => ?_) (fun H2 ys s2 w2 e2 l2 r2 => ?_)⟩
    · obtain ⟨rfl, hx⟩ := y
      refine ⟨rfl, _, rfl, a, 40, m + 1, rfl, w2, by decide, log_small (m := 40) (by decide), fun d H4 d0 d1 s4 w4 => ⟨_, _, rfl, rfl, ?_⟩⟩
      refine ⟨_, rfl, a, 4, m, rfl, w4, by decide, log_small (m := 4) (by decide), fun g H5 g0 g1 s5 w5 => ⟨_, _, rfl, rfl, ?_⟩⟩
      obtain ⟨bo, hbo, bo0, bo1⟩ : ∃ b : Nat, 1 + g = (b : Int) ∧ 0 < b ∧ b ≤ 4 := ⟨(1 + g).toNat, by omega, by omega, by omega⟩
      refine ⟨d - 20, (bo : Int), by show [V.int (d - 20), V.int (1 + g)] = _; rw [hbo], by omega, log_small (by omega), fun H6 r6 s6 h6 => ?_⟩
      have s26 := s4.trans (s5.trans (hid_mono s6))
      refine hk _ _ s26 (w5.same s6) ⟨Rat.divInt (d - 20) (bo : Int), IsTup2.hidL ?_ (IsTup2.hid (w5.same s6) h6), Nice.of bo0 ?_ ?_⟩
      · obtain ⟨ys', e'⟩ := eD
        have nDa : D ≠ a := hw.ne nD
        exact ⟨ys', s26 _ _ (by rw [hid_ne nDa]; exact e')⟩
      · rcases (show bo = 1 ∨ bo = 2 ∨ bo = 3 ∨ bo = 4 by omega) with e | e | e | e <;> rw [e] <;> decide
      · have h1 : (d - 20).natAbs ≤ 20 := by omega
        exact Nat.le_trans h1 (Nat.le_mul_of_pos_right _ bo0)
    · obtain ⟨ts, hts⟩ := allAre_of (R := fun y q => IsPr (hid D (hid a H2)) y q ∧ Nice 12 20 q) r2
      have nDa : D ≠ a := hw.ne nD
      have lts : ts.length = k := by rw [← hts.1, l2, lr0]
      have bts : ∀ q ∈ ts, Bd 50 q := fun q hq => by
        obtain ⟨y, hy⟩ := hts.mem hq
        exact hy.2.bd (by decide) (by decide) (by decide)
      have s02 : Same (hid a H) (hid a H2) := s2.trans hid_same
      have g2 : Same (hid a H2) H2 := hid_same
      have ats : AllAre (IsPr H2) ys ts := hts.imp fun _ _ h => ((h.1.mono hid_same).mono g2)
      have hpc2 : H2 pc = some (.lst cvs) := g2 _ _ (s02 _ _ hpc)
      have ac2 : AllAre (IsPrs H2) cvs css := ac.imp fun _ _ h => (h.mono s02).mono g2
      have bcs : ∀ l ∈ css, ∀ q ∈ l, Bd 49 q := fun l hl q hq => ((C.row l hl).2 q hq).bd b0 (by omega) (by omega)
      refine ⟨Nat.zero_le _, fun ph nh => ?_⟩
      have sh := same_upd (o := .lst []) nh
      refine ⟨_, rfl, pc, rfl, ⟨_, SqL.of (sh _ _ hpc2)⟩, for_list (K := K) (a := pc) (xs := cvs) (fun i σ H' => ∃ hvs hs y4 y5 y6 y7 y8, σ = [some (.ref a), some (.ref pc), some (.ref D), some (.ref ph), y4, y5, y6, y7, y8] ∧ Same H2 H' ∧ H' ph = some (.lst hvs) ∧ AllAre (IsPr (hid ph H')) hvs hs ∧ hs.length = i ∧ (∀ q ∈ hs, Bd 100 q) ∧ ∀ i' j, i' < i → j < k → at0 hs i' - at0 ts j ≤ cAt css i' j) ⟨[], [], _, _, _, _, _, rfl, sh, upd_same, .nil, rfl, fun q h => by simp at h, fun i' j h => absurd h (Nat.not_lt_zero _)⟩ (fun i σ H' _ h => ?_) (fun i x σ H' hx h => ?_) (fun σ H' h => ?_)⟩
      · obtain ⟨_, _, _, _, _, _, _, _, s3, _⟩ := h
        exact s3.seq (SqL.of hpc2)
      · obtain ⟨hvs, hs, y4, y5, y6, y7, y8, rfl, s3, eh, ah, lh, bh, le⟩ := h
        obtain ⟨c, hc, pr, rvs, rfl, er, ar⟩ := ac2.at hx
        have lr : rvs.length = k := by rw [ar.1, (C.row _ (List.mem_of_getElem? hc)).1]
        have hr00 := List.getElem?_eq_getElem (show 0 < rvs.length by omega)
        obtain ⟨z0, hz0, gz0⟩ := ar.at hr00
        generalize rvs[0]'(by omega) = v0 at hr00 gz0
        have ht00 := List.getElem?_eq_getElem (show 0 < ys.length by rw [ats.1]; omega)
        obtain ⟨t0, ht0, gt0⟩ := ats.at ht00
        generalize ys[0]'(by rw [ats.1]; omega) = u0 at ht00 gt0
        have mc := List.mem_of_getElem? hc
        have eAt : ∀ {j : Nat} {z t : Rat}, c[j]? = some z → ts[j]? = some t → cAt css i j = z ∧ at0 ts j = t := fun h1 h2 => ⟨cAt_of hc h1, at0_of h2⟩
        have bzt : ∀ {j : Nat} {z t : Rat}, c[j]? = some z → ts[j]? = some t → Bd 100 (z + t) := fun h1 h2 => ((bcs c mc _ (List.mem_of_getElem? h1)).add (bts _ (List.mem_of_getElem? h2))).mono (by decide)
        have eDx : H' D = some (.lst ys) := s3 _ _ e2
        refine ⟨_, rfl, pr, _, _, _, rfl, rfl, SqL.of (s3 _ _ er), atI_nat (j := 0) hr00, _, rfl, D, _, _, _, rfl, rfl, SqL.of eDx, atI_nat (j := 0) ht00, ?_⟩
        refine spTwo.mk (E := E0) (gz0.mono s3) (gt0.mono s3) ((bcs c mc z0 (List.mem_of_getElem? hz0)).mono (by decide)) ((bts t0 (List.mem_of_getElem? ht0)).mono (by decide)) fun H4 r4 s4 h4 => ?_
        have s34 := s3.trans s4
        refine ⟨_, rfl, _, rfl, pr, D, rvs, ys, rfl, SqL.of (s34 _ _ er), SqL.of (s34 _ _ e2), RZ.for_zipL (K := K) (a := pr) (b := D) (xs := rvs) (ys := ys) (by rw [lr, ats.1, lts]) (fun j σ H'' => ∃ lo y6 y7 y8 z, σ = [some (.ref a), some (.ref pc), some (.ref D), some (.ref ph), some (.ref pr), some lo, y6, y7, y8] ∧ Same H4 H'' ∧ IsPr H'' lo z ∧ Bd 100 z ∧ ∀ j', j' < j → z ≤ cAt css i j' + at0 ts j') ⟨_, _, _, _, _, rfl, .refl _, h4, bzt hz0 ht0, fun j hj => absurd hj (Nat.not_lt_zero _)⟩ (fun j σ H'' h => ?_) (fun j x y T1 σ H'' hx hy h nT => ?_) (fun σ H'' h => ?_)⟩
        · obtain ⟨_, _, _, _, _, _, s5, _⟩ := h
          exact ⟨(s34.trans s5).seq (SqL.of er), (s34.trans s5).seq (SqL.of e2)⟩
        · obtain ⟨lo, y6, y7, y8, z, rfl, s5, hlo, bz, hm⟩ := h
          have sT := same_upd (o := .tup [x, y]) nT
          obtain ⟨zc, hzc, gc⟩ := ar.at hx
          obtain ⟨zt, hzt, gt⟩ := ats.at hy
          have sX := (s34.trans s5).trans sT
          refine ⟨T1, _, rfl, .inl (.inl upd_same), rfl, _, _, rfl, _, _, rfl, rfl, ?_⟩
          refine ⟨_, rfl, _, rfl, spTwo.mk (E := E0) (gc.mono sX) (gt.mono sX) ((bcs c mc zc (List.mem_of_getElem? hzc)).mono (by decide)) ((bts zt (List.mem_of_getElem? hzt)).mono (by decide)) fun H6 r6 s6 h6 => ?_⟩
          have b6 := bzt hzc hzt
          refine ⟨_, rfl, _, rfl, _, _, _, _, rfl, h6, (hlo.mono sT).mono s6, b6.mono (by decide), bz.mono (by decide), _, rfl, ite2 (fun hb => ?_) (fun hb => ?_)⟩
          · have hb := of_decide_eq_true hb
            refine ⟨_, rfl, _, _, _, _, _, rfl, s5.trans (sT.trans s6), h6, b6, fun j' hj' => ?_⟩
            by_cases e : j' = j
            · rw [e, (eAt hzc hzt).1, (eAt hzc hzt).2]
              exact Rat.le_refl
            · have := hm j' (by omega)
              grind
          · have hb : ¬ zc + zt < z := fun z => hb (decide_eq_true z)
            refine ⟨_, rfl, _, _, _, _, _, rfl, s5.trans (sT.trans s6), (hlo.mono sT).mono s6, bz, fun j' hj' => ?_⟩
            by_cases e : j' = j
            · rw [e, (eAt hzc hzt).1, (eAt hzc hzt).2]
              exact Rat.not_lt.mp hb
            · exact hm j' (by omega)
        · obtain ⟨lo, y6, y7, y8, z, rfl, s5, hlo, bz, hm⟩ := h
          rw [lr] at hm
          have s45 := s4.trans s5
          have eh5 := s45 _ _ eh
          refine ⟨_, rfl, .inl ⟨rfl, _, SqL.of eh5⟩, _, rfl, ph, hvs, lo, rfl, rfl, eh5, small1000 (by rw [ah.1, lh]; have := (List.getElem?_eq_some_iff.mp hc).1; omega), ?_⟩
          have sU : Same H2 (upd H'' ph (.lst (hvs ++ [lo]))) := same_over (s3.trans s45) nh
          refine ⟨hvs ++ [lo], hs ++ [z], _, _, _, _, _, rfl, sU, upd_same, ?_, by rw [List.length_append, lh]; rfl, fun q hq => ?_, fun i' j hi' hj => ?_⟩
          · rw [hid_upd]
            exact (ah.imp fun _ _ h => h.mono (hid_mono s45)).snoc (IsPr.hidL ⟨_, eh5⟩ hlo)
          · rcases List.mem_append.mp hq with hq | hq
            · exact bh q hq
            · rw [List.mem_singleton.mp hq]
              exact bz
          · by_cases e : i' < i
            · have e1 : at0 (hs ++ [z]) i' = at0 hs i' := by
                unfold at0
                rw [List.getD_eq_getElem?_getD, List.getD_eq_getElem?_getD, List.getElem?_append_left (by omega)]
              rw [e1]
              exact le i' j e hj
            · have e2 : i' = i := by omega
              have e1 : at0 (hs ++ [z]) i' = z := at0_of (by rw [List.getElem?_append_right (by omega), show i' - hs.length = 0 by omega]; rfl)
              rw [e1, e2]
              have := hm j hj
              grind
      · obtain ⟨hvs, hs, y4, y5, y6, y7, y8, rfl, s3, eh, ah, lh, bh, le⟩ := h
        rw [ac.1] at lh le
        refine ⟨_, rfl, _, rfl, by show 2 ≤ sizeLine; decide, fun tp ntp => ?_⟩
        have sp := same_upd (o := .tup [.ref ph, .ref D]) ntp
        have s0 := s3.trans sp
        exact q _ tp _ _ hs ts (s02.trans (hid_mono s0)) (w2.same s0) upd_same ⟨ph, hvs, rfl, sp _ _ eh, ah.imp fun _ _ h => (h.mono hid_same).mono sp⟩ ⟨D, ys, rfl, s0 _ _ e2, ats.imp fun _ _ h => h.mono s0⟩ lh lts bh (fun q hq => (bts q hq).mono (by decide)) fun i hi j hj => le i j hi hj
def spBroughtL : Sp := fun vs H Q _ => ∃ (p : Addr) (x y f g : V) (hs ts ps qs : List Rat), vs = [.ref p, f, g] ∧ H p = some (.tup [x, y]) ∧ IsPrs H x hs ∧ IsPrs H y ts ∧ IsPrs H f ps ∧ IsPrs H g qs ∧ (∀ q ∈ hs, Bd 100 q) ∧ (∀ q ∈ ts, Bd 100 q) ∧ (∀ q ∈ ps, Bd 21 q) ∧ (∀ q ∈ qs, Bd 21 q) ∧ ps.length ≤ 12 ∧ qs.length ≤ 12 ∧ hs.length = ps.length ∧ ts.length = qs.length ∧
  ∀ H' r, Same H H' → IsPr H' r (dot hs ps - dot ts qs) → Bd 4000 (dot hs ps - dot ts qs) → Q r H'
set_option maxHeartbeats 1600000 in
theorem ok_l_brought (T : Txt K mg) : FnOk P w K mg base CX0 5 T.f_l_brought T.d_l_brought ["_law_prices", "_law_first", "_law_second"] spBroughtL := by
  refine T.F_l_brought.ok sc_l_brought (fun vs H Q E h => ?_) (fun cdv A outer s H vs Q E hr h => ?_)
  · obtain ⟨p, x, y, f, g, hs, ts, ps, qs, rfl, _⟩ := h
    rfl
  · obtain ⟨p, x, y, f, g, hs, ts, ps, qs, rfl, ep, ⟨ph, hvs, rfl, eh, ah⟩, ⟨pt, tvs, rfl, et, at'⟩, ⟨pf, pvs, rfl, ef, af⟩, ⟨pg, qvs, rfl, eg, ag⟩, bh, bt, bp, bq, lp, lq, l1, l2, q⟩ := h
    refine ⟨_, (pss_cons (ps_set (i := 3) sc_l_brought.nd rfl (.inl rfl) (pe_call (ok_l_total T) (hr.mono (by decide)) (by rfl) T.g_l_total T.F_l_total.kp T.b_l_total .nil pass0 (pa_cons (pe_lc (own := [("_law_price", 4), ("_law_share", 5)]) (g := (gTup K 2 (gCons (gName 4) (gCons (gName 5) gNil)))) (tt := tYes) (by rfl) sc_l_brought.nd (pi_zip (by rfl) T.z_zip (pa_cons (pe_ix ix_tup (pv 0) pe_int (fun _ _ => rfl)) (pa_cons (pv 1) pa_nil))) (blkOk_by (own := [("_law_price", 4), ("_law_share", 5)]) (N := ["_law_prices", "_law_first", "_law_second", "_law_gained", "_law_price", "_law_share"]) (sc := defScope s_l_brought) (by decide +kernel)) (fun _ _ _ _ _ => by exact (pg_tup (by rfl) (pgs_cons (pg_name (i := 4) sc_l_brought.nd rfl (.inl rfl)) (pgs_cons (pg_name (i := 5) sc_l_brought.nd rfl (.inl rfl)) pgs_nil)))) (fun _ _ _ _ _ => by exact pts_nil) (fun _ _ _ _ _ => by exact (pe_call (ok_l_by T) (hr.mono (by decide)) (by rfl) T.g_l_by T.F_l_by.kp T.b_l_by .nil pass0 (pa_cons (pv 4) (pa_cons (pv 5) pa_nil))))) pa_nil)))
 (pss_one (ps_ret (pe_call (ok_l_less T) (hr.mono (by decide)) (by rfl) T.g_l_less T.F_l_less.kp T.b_l_less .nil pass0 (pa_cons (pv 3) (pa_cons (pe_call (ok_l_total T) (hr.mono (by decide)) (by rfl) T.g_l_total T.F_l_total.kp T.b_l_total .nil pass0 (pa_cons (pe_lc (own := [("_law_price", 4), ("_law_share", 5)]) (g := (gTup K 2 (gCons (gName 4) (gCons (gName 5) gNil)))) (tt := tYes) (by rfl) sc_l_brought.nd (pi_zip (by rfl) T.z_zip (pa_cons (pe_ix ix_tup (pv 0) pe_int (fun _ _ => rfl)) (pa_cons (pv 2) pa_nil))) (blkOk_by (own := [("_law_price", 4), ("_law_share", 5)]) (N := ["_law_prices", "_law_first", "_law_second", "_law_gained", "_law_price", "_law_share"]) (sc := defScope s_l_brought) (by decide +kernel)) (fun _ _ _ _ _ => by exact (pg_tup (by rfl) (pgs_cons (pg_name (i := 4) sc_l_brought.nd rfl (.inl rfl)) (pgs_cons (pg_name (i := 5) sc_l_brought.nd rfl (.inl rfl)) pgs_nil)))) (fun _ _ _ _ _ => by exact pts_nil) (fun _ _ _ _ _ => by exact (pe_call (ok_l_by T) (hr.mono (by decide)) (by rfl) T.g_l_by T.F_l_by.kp T.b_l_by .nil pass0 (pa_cons (pv 4) (pa_cons (pv 5) pa_nil))))) pa_nil)) pa_nil)))))), ?_⟩
    have db : ∀ {us ws : List Rat}, (∀ x ∈ us, Bd 100 x) → (∀ x ∈ ws, Bd 21 x) → ∀ z ∈ List.zipWith (· * ·) us ws, Bd 121 z := fun hu hw z hz => by
      obtain ⟨u, h1, w', h2, rfl⟩ := mem_zip hz
      exact (hu u h1).mul (hw w' h2)
    have lz1 : (List.zipWith (· * ·) hs ps).length ≤ 12 := by rw [List.length_zipWith]; omega
    have lz2 : (List.zipWith (· * ·) ts qs).length ≤ 12 := by rw [List.length_zipWith]; omega
    have d1 : Bd 1500 (dot hs ps) := (rsum_bd (db bh bp)).mono (by omega)
    have d2 : Bd 1500 (dot ts qs) := (rsum_bd (db bt bq)).mono (by omega)
    refine ⟨_, rfl, p, _, _, _, rfl, rfl, .inl (.inl ep), atI_nat (j := 0) rfl, _, rfl, ph, pf, hvs, pvs, rfl, SqL.of eh, SqL.of ef, fun D nD => lc_zip2 (K := K) (by decide) (by decide) (by decide) (by simp [L2.start]) (by simp [L2.start]) nD eh ef ah af (fun x hx => (bh x hx).mono (by decide)) (fun x hx => (bp x hx).mono (by decide)) (by omega) fun H2 zs s2 e2 a2 => ?_⟩
    refine ⟨_, List.zipWith (· * ·) hs ps, 121, rfl, ⟨D, zs, rfl, e2, a2⟩, db bh bp, by omega, by decide, fun H3 r3 s3 h3 => ?_⟩
    have s13 := s2.trans s3
    refine ⟨_, rfl, _, rfl, p, _, _, _, rfl, rfl, .inl (.inl (s13 _ _ ep)), atI_nat (j := 1) rfl, _, rfl, pt, pg, tvs, qvs, rfl, SqL.of (s13 _ _ et), SqL.of (s13 _ _ eg), fun D2 nD2 => lc_zip2 (K := K) (by decide) (by decide) (by decide) (by simp [L2.start]) (by simp [L2.start]) nD2 (s13 _ _ et) (s13 _ _ eg) (at'.imp fun _ _ h => h.mono s13) (ag.imp fun _ _ h => h.mono s13) (fun x hx => (bt x hx).mono (by decide)) (fun x hx => (bq x hx).mono (by decide)) (by omega) fun H4 zs4 s4 e4 a4 => ?_⟩
    refine ⟨_, List.zipWith (· * ·) ts qs, 121, rfl, ⟨D2, zs4, rfl, e4, a4⟩, db bt bq, by omega, by decide, fun H5 r5 s5 h5 => ?_⟩
    have h3 : IsPr H3 r3 (dot hs ps) := h3
    have h5 : IsPr H5 r5 (dot ts qs) := h5
    exact spTwo.mk (E := E0) (h3.mono (s4.trans s5)) h5 (d1.mono (by decide)) (d2.mono (by decide)) fun H6 r6 s6 h6 => q H6 r6 (s13.trans (s4.trans (s5.trans s6))) h6 ((d1.sub d2).mono (by decide))
end

end Fb

namespace Fb
open PySem PySem.Spec PyProof.Rows L2
section
variable {P : Program} {w : World} {K : PySem.W.Frag} {mg : Str → Option Value} {base : Heap}
/-! ### the law of plans -/
theorem nice_unit {S : Nat} {q : Rat} (d : q.den ∣ S) (h0 : 0 ≤ q) (h1 : q ≤ 1) : Nice S 1 q := by
  refine ⟨d, ?_⟩
  have a0 := Rat.num_nonneg.mpr h0
  have := (Rat.le_iff q 1).mp h1
  have e1 : (1 : Rat).num = 1 := rfl
  have e2 : (1 : Rat).den = 1 := rfl
  rw [e1, e2] at this
  omega
/-- a plan whose shares have a common bottom -/
def PlanX (M N : Nat) (p q : Nat → Rat) (B : Nat) (X : Nat → Nat → Rat) : Prop := Pln M N p q X ∧ ∃ S, 0 < S ∧ S ≤ B ∧ ∀ i, i < M → ∀ j, j < N → Nice S 1 (X i j)
theorem PlanOk.x {M N : Nat} {p q : Nat → Rat} {X : Nat → Nat → Rat} (h : PlanOk M N p q X) : PlanX M N p q 1000000 X := by
  obtain ⟨S, s0, s1, sd⟩ := h.den
  exact ⟨⟨fun i hi j hj => (h.t0 i j hi hj).1, h.row, h.col⟩, S, s0, s1, fun i hi j hj => nice_unit (sd i j hi hj).2 (h.t0 i j hi hj).1 (sd i j hi hj).1⟩
theorem PlanX.le1 {M N B : Nat} {p q : Nat → Rat} {X : Nat → Nat → Rat} (h : PlanX M N p q B X) {i j : Nat} (hi : i < M) (hj : j < N) : X i j ≤ 1 := by
  obtain ⟨_, S, s0, _, n⟩ := h
  have a := (n i hi j hj).abs
  refine (Rat.le_iff _ _).mpr ?_
  have e1 : (1 : Rat).num = 1 := rfl
  have e2 : (1 : Rat).den = 1 := rfl
  rw [e1, e2]
  omega
theorem PlanX.mixed {M N : Nat} {p q : Nat → Rat} {X Y : Nat → Nat → Rat} (h : PlanX M N p q 1000000 X) (h' : PlanX M N p q 1000000 Y) {α : Rat} (a0 : 0 ≤ α) (a1 : α ≤ 1) (an : α.den ∣ 42) : PlanX M N p q 100000000000000 fun i j => α * X i j + (1 - α) * Y i j := by
  have l1 := fun i hi j hj => h.le1 (i := i) (j := j) hi hj
  have l2 := fun i hi j hj => h'.le1 (i := i) (j := j) hi hj
  obtain ⟨P, S, s0, s1, n⟩ := h
  obtain ⟨P', S', s0', s1', n'⟩ := h'
  have b0 : 0 ≤ 1 - α := by grind
  have k1 : ∀ i, i < M → ∀ j, j < N → 0 ≤ α * X i j ∧ α * X i j ≤ α := fun i hi j hj => ⟨Rat.mul_nonneg a0 (P.nn i hi j hj), by
    have := Rat.mul_le_mul_of_nonneg_left (l1 i hi j hj) a0
    grind⟩
  have k2 : ∀ i, i < M → ∀ j, j < N → 0 ≤ (1 - α) * Y i j ∧ (1 - α) * Y i j ≤ 1 - α := fun i hi j hj => ⟨Rat.mul_nonneg b0 (P'.nn i hi j hj), by
    have := Rat.mul_le_mul_of_nonneg_left (l2 i hi j hj) b0
    grind⟩
  refine ⟨⟨fun i hi j hj => ?_, fun i hi => ?_, fun j hj => ?_⟩, 42 * S * S', Nat.mul_pos (by omega) s0', ?_, fun i hi j hj => ?_⟩
  · have := (k1 i hi j hj).1
    have := (k2 i hi j hj).1
    grind
  · show rsumN N (fun j => α * X i j + (1 - α) * Y i j) = p i
    rw [rsumN_add, rsumN_mul, rsumN_mul]
    have e1 : rsumN N (fun j => X i j) = p i := P.row i hi
    have e2 : rsumN N (fun j => Y i j) = p i := P'.row i hi
    rw [e1, e2]
    grind
  · show rsumN M (fun i => α * X i j + (1 - α) * Y i j) = q j
    rw [rsumN_add, rsumN_mul, rsumN_mul, P.col j hj, P'.col j hj]
    grind
  · have := Nat.mul_le_mul (Nat.mul_le_mul_left 42 s1) s1'
    omega
  · refine nice_unit ?_ ?_ ?_
    · have nα : Nice 42 1 α := nice_unit an a0 a1
      have nβ : Nice 42 2 (1 - α) := Nice.sub (M := 1) (by decide) ⟨Nat.one_dvd _, by decide⟩ nα
      have m1 := (nα.mul (n i hi j hj)).mono (Nat.dvd_mul_right (42 * S) S') (Nat.le_refl _)
      have m2 := (nβ.mul (n' i hi j hj)).mono (show 42 * S' ∣ 42 * S * S' by rw [Nat.mul_right_comm]; exact Nat.dvd_mul_right _ _) (Nat.le_refl _)
      exact (Nice.add (Nat.mul_pos (by omega) s0') m1 m2).den
    · have := (k1 i hi j hj).1
      have := (k2 i hi j hj).1
      grind
    · have := (k1 i hi j hj).2
      have := (k2 i hi j hj).2
      grind
theorem PlanX.m {M N B : Nat} {p q : Nat → Rat} {X : Nat → Nat → Rat} (h : PlanX M N p q B X) (N12 : N ≤ 12) (B1 : B ≤ 100000000000000) : ∃ S, PlanM (tabF M N X) S := by
  obtain ⟨_, S, s0, s1, n⟩ := h
  refine ⟨S, s0, by omega, fun r hr => ⟨by rw [(tabF_mem hr).1]; exact N12, fun z hz => ?_⟩⟩
  obtain ⟨i, j, hi, hj, rfl⟩ := (tabF_mem hr).2 z hz
  exact n i hi j hj
theorem dot_planM {css pss : List (List Rat)} {k b S : Nat} (C : CostN css k b) (N : PlanM pss S) (c12 : css.length ≤ 12) (lcp : css.length = pss.length) (lrow : ∀ (i : Nat) c p, css[i]? = some c → pss[i]? = some p → c.length = p.length) : Bd 100 (dot css.flatten pss.flatten) := by
  rw [dot_rows lcp lrow]
  have : ∀ z ∈ List.zipWith dot css pss, Nice (b * S) 12000000000 z := fun z hz => by
    obtain ⟨j, hj, e⟩ := List.mem_iff_getElem.mp hz
    rw [List.getElem_zipWith] at e
    rw [← e]
    exact dot_nice C N (List.getElem_mem _) (List.getElem_mem _)
  refine bS_bd C.b0 C.b1 N.s0 N.s1 ?_ (Nice.rsum (Nat.mul_pos C.b0 N.s0) this)
  have l : (List.zipWith dot css pss).length ≤ 12 := by
    rw [List.length_zipWith]
    omega
  exact Nat.mul_le_mul_left 12000000000 l
theorem dot_at0 {ps qs : List Rat} {n : Nat} (h1 : ps.length = n) (h2 : qs.length = n) : dot ps qs = rsumN n fun j => at0 ps j * at0 qs j := by
  unfold dot rsumN
  congr 1
  refine List.ext_getElem? fun i => ?_
  by_cases hi : i < n
  · rw [List.getElem?_zipWith, List.getElem?_map, List.getElem?_range hi, List.getElem?_eq_getElem (by omega), List.getElem?_eq_getElem (by omega)]
    show some _ = some (at0 ps i * at0 qs i)
    rw [at0_of (List.getElem?_eq_getElem (by omega)), at0_of (List.getElem?_eq_getElem (by omega))]
  · rw [List.getElem?_eq_none (by rw [List.length_zipWith]; omega), List.getElem?_eq_none (by rw [List.length_map, List.length_range]; omega)]
/-- what a table of shares costs -/
theorem dot_spent {css : List (List Rat)} {M N : Nat} {X : Nat → Nat → Rat} (l : css.length = M) (r : ∀ c ∈ css, c.length = N) : dot css.flatten (tabF M N X).flatten = spent M N (cAt css) X := by
  rw [dot_rows (by rw [l, tabF_len]) fun i c p h1 h2 => by rw [r c (List.mem_of_getElem? h1), (tabF_mem (List.mem_of_getElem? h2)).1]]
  unfold spent rsumN
  congr 1
  refine List.ext_getElem? fun i => ?_
  by_cases hi : i < M
  · have h1 := List.getElem?_eq_getElem (show i < css.length by omega)
    rw [List.getElem?_zipWith, List.getElem?_map, List.getElem?_range hi, h1, tabF_at hi]
    show some _ = some _
    congr 1
    have R := r _ (List.mem_of_getElem? h1)
    rw [dot_at0 (n := N) R (by rw [List.length_map, List.length_range])]
    refine rsumN_congr fun j hj => ?_
    rw [at0_of (l := (List.range N).map (X i)) (by rw [List.getElem?_map, List.getElem?_range hj]; rfl)]
    congr 1
    have h2 := List.getElem?_eq_getElem (show j < (css[i]).length by omega)
    rw [cAt_of h1 h2, at0_of h2]
  · rw [List.getElem?_eq_none (by rw [List.length_zipWith, tabF_len]; omega), List.getElem?_eq_none (by rw [List.length_map, List.length_range]; omega)]
def spLaw (K : PySem.W.Frag) : Sp := fun vs H Q _ => ∃ (a : Addr) (ns : List Int), vs = [.ref a] ∧ SqL K H a (ns.map V.int) ∧ ns.length ≤ 63 ∧ ∀ H', Q (.bl true) H'
set_option maxHeartbeats 8000000 in
theorem ok_law (T : Txt K mg) : FnOk P w K mg base CX0 14 T.f_law T.d_law ["_law_script"] (spLaw K) := by
  refine T.F_law.ok sc_law (fun vs H Q E h => ?_) (fun cdv A outer s H vs Q E hr h => ?_)
  · obtain ⟨a, ns, rfl, _⟩ := h
    rfl
  · obtain ⟨a, ns, rfl, hS, hlen, q⟩ := h
    refine ⟨_, (pss_cons (ps_for PassesOwn.never rfl (pi_list (pe_op op_cat (pe_slice sl_list (pv 0) po_none (po_some pe_int)) (pe_lst (pa_cons pe_int (pa_cons pe_int pa_nil))))) (pg_name (i := 1) sc_law.nd rfl (.inl rfl))
  (pss_cons (ps_set (i := 2) sc_law.nd rfl (.inr rfl) (pe_call (ok_l_well T) (hr.mono (by decide)) (by rfl) T.g_l_well T.F_l_well.kp T.b_l_well .nil pass0 (pa_cons (pv 1) pa_nil)))
 (pss_cons (ps_set (i := 3) sc_law.nd rfl (.inl rfl) (pe_call (ok_l_one T) (hr.mono (by decide)) (by rfl) T.g_l_one T.F_l_one.kp T.b_l_one .nil pass0 (pa_cons (pv 2) (pa_cons (pe_lst (pa_cons pe_int (pa_cons pe_int (pa_cons pe_int (pa_cons pe_int pa_nil))))) pa_nil))))
 (pss_cons (ps_set (i := 4) sc_law.nd rfl (.inr rfl) (pe_call (ok_l_heap T) (hr.mono (by decide)) (by rfl) T.g_l_heap T.F_l_heap.kp T.b_l_heap .nil pass0 (pa_cons (pv 2) (pa_cons (pe_op op_add pe_int (pe_call (ok_l_draw T) (hr.mono (by decide)) (by rfl) T.g_l_draw T.F_l_draw.kp T.b_l_draw .nil pass0 (pa_cons (pv 2) (pa_cons (pv 3) pa_nil)))) pa_nil))))
 (pss_cons (ps_set (i := 5) sc_law.nd rfl (.inr rfl) (pe_call (ok_l_heap T) (hr.mono (by decide)) (by rfl) T.g_l_heap T.F_l_heap.kp T.b_l_heap .nil pass0 (pa_cons (pv 2) (pa_cons (pe_op op_add pe_int (pe_call (ok_l_draw T) (hr.mono (by decide)) (by rfl) T.g_l_draw T.F_l_draw.kp T.b_l_draw .nil pass0 (pa_cons (pv 2) (pa_cons (pv 3) pa_nil)))) pa_nil))))
 (pss_cons (ps_set (i := 6) sc_law.nd rfl (.inl rfl) (pe_call (ok_l_costs T) (hr.mono (by decide)) (by rfl) T.g_l_costs T.F_l_costs.kp T.b_l_costs .nil pass0 (pa_cons (pv 2) (pa_cons (pe_callB call_len_seq (by rfl) T.z_len (by decide +kernel) (pa_cons (pv 4) pa_nil)) (pa_cons (pe_callB call_len_seq (by rfl) T.z_len (by decide +kernel) (pa_cons (pv 5) pa_nil)) pa_nil)))))
 (pss_cons (ps_asg (pe_call (ok_p_cheapest T) (hr.mono (by decide)) (by rfl) T.g_p_cheapest T.F_p_cheapest.kp T.b_p_cheapest .nil pass0 (pa_cons (pe_call (ok_l_rows T) (hr.mono (by decide)) (by rfl) T.g_l_rows T.F_l_rows.kp T.b_l_rows .nil pass0 (pa_cons (pv 6) pa_nil)) (pa_cons (pe_call (ok_l_shares T) (hr.mono (by decide)) (by rfl) T.g_l_shares T.F_l_shares.kp T.b_l_shares .nil pass0 (pa_cons (pv 4) pa_nil)) (pa_cons (pe_call (ok_l_shares T) (hr.mono (by decide)) (by rfl) T.g_l_shares T.F_l_shares.kp T.b_l_shares .nil pass0 (pa_cons (pv 5) pa_nil)) pa_nil)))) (pg_tup (by rfl) (pgs_cons (pg_name (i := 7) sc_law.nd rfl (.inl rfl)) (pgs_cons (pg_name (i := 8) sc_law.nd rfl (.inl rfl)) (pgs_cons (pg_name (i := 9) sc_law.nd rfl (.inl rfl)) pgs_nil)))))
 (pss_cons (ps_set (i := 10) sc_law.nd rfl (.inl rfl) (pe_call (ok_l_pair T) (hr.mono (by decide)) (by rfl) T.g_l_pair T.F_l_pair.kp T.b_l_pair .nil pass0 (pa_cons (pv 7) pa_nil)))
 (pss_cons (ps_setLc (i := 11) (own := [("_law_some", 16)]) (g := (gName 16)) (tt := tYes) (by rfl) sc_law.nd rfl rfl (sw_true rfl rfl rfl (by decide +kernel)) (pi_tup (pv 9)) (blkOk_by (own := [("_law_some", 16)]) (N := ["_law_script", "_law_cell", "_law_well_here", "_law_most", "_law_first", "_law_second", "_law_costs_here", "_law_cost_here", "_law_plan", "_law_prices", "_law_due", "_law_told", "_law_plans", "_law_one_here", "_law_spent", "_law_k", "_law_some", "_law_price"]) (sc := defScope s_law) (by decide +kernel)) (fun _ _ _ _ _ => by exact (pg_name (i := 16) sc_law.nd rfl (.inl rfl))) (fun _ _ _ _ _ => by exact pts_nil) (fun _ _ _ _ _ => by exact (by exact (pe_lc (own := [("_law_price", 17)]) (g := (gName 17)) (tt := tYes) (by rfl) sc_law.nd (pi_listK (K := K) rfl (pv 16)) (by exact blkOk_by (own := [("_law_price", 17)]) (by kernel_rfl)) (fun _ _ _ _ _ => by exact (pg_name (i := 17) sc_law.nd rfl (.inl rfl))) (fun _ _ _ _ _ => by exact pts_nil) (fun _ _ _ _ _ => by exact (pe_call (ok_l_pair T) (hr.mono (by decide)) (by rfl) T.g_l_pair T.F_l_pair.kp T.b_l_pair .nil pass0 (pa_cons (pv 17) pa_nil)))))))
 (pss_cons (ps_setLc (i := 12) (own := [("_law_k", 15)]) (g := (gName 15)) (tt := tYes) (by rfl) sc_law.nd rfl rfl (sw_true rfl rfl rfl (by decide +kernel)) (pi_range1 (by rfl) T.z_range (pa_cons pe_int pa_nil)) (blkOk_by (own := [("_law_k", 15)]) (N := ["_law_script", "_law_cell", "_law_well_here", "_law_most", "_law_first", "_law_second", "_law_costs_here", "_law_cost_here", "_law_plan", "_law_prices", "_law_due", "_law_told", "_law_plans", "_law_one_here", "_law_spent", "_law_k", "_law_some", "_law_price"]) (sc := defScope s_law) (by decide +kernel)) (fun _ _ _ _ _ => by exact (pg_name (i := 15) sc_law.nd rfl (.inl rfl))) (fun _ _ _ _ _ => by exact pts_nil) (fun _ _ _ _ _ => by exact (pe_call (ok_l_filled T) (hr.mono (by decide)) (by rfl) T.g_l_filled T.F_l_filled.kp T.b_l_filled .nil pass0 (pa_cons (pv 2) (pa_cons (pv 4) (pa_cons (pv 5) pa_nil))))))
 (pss_cons (ps_expr (pe_bm PySem.F.plainAttrs_list PySem.F.slot_list_append PySem.F.type_list_append mt_append (pv 12) (pa_cons (pe_call (ok_l_mixed T) (hr.mono (by decide)) (by rfl) T.g_l_mixed T.F_l_mixed.kp T.b_l_mixed .nil pass0 (pa_cons (pe_ix ix_list (pv 12) pe_int (fun _ _ => rfl)) (pa_cons (pe_ix ix_list (pv 12) pe_int (fun _ _ => rfl)) (pa_cons (pe_call (ok_l_one T) (hr.mono (by decide)) (by rfl) T.g_l_one T.F_l_one.kp T.b_l_one .nil pass0 (pa_cons (pv 2) (pa_cons (pe_lst (pa_cons (pe_tup (pa_cons pe_int (pa_cons pe_int pa_nil))) (pa_cons (pe_tup (pa_cons pe_int (pa_cons pe_int pa_nil))) (pa_cons (pe_tup (pa_cons pe_int (pa_cons pe_int pa_nil))) pa_nil)))) pa_nil))) pa_nil)))) pa_nil)))
 (pss_cons (ps_for PassesOwn.never rfl (pi_list (pv 12)) (pg_name (i := 13) sc_law.nd rfl (.inl rfl))
  (pss_cons (ps_set (i := 14) sc_law.nd rfl (.inl rfl) (pe_call (ok_l_cost T) (hr.mono (by decide)) (by rfl) T.g_l_cost T.F_l_cost.kp T.b_l_cost .nil pass0 (pa_cons (pv 6) (pa_cons (pv 13) pa_nil))))
 (pss_one (ps_if (PW.pt (pw_or (pt_val (pe_call (ok_l_below T) (hr.mono (by decide)) (by rfl) T.g_l_below T.F_l_below.kp T.b_l_below .nil pass0 (pa_cons (pv 14) (pa_cons (pv 10) pa_nil)))) (pw_or1 (pt_cmpR op_ne (pe_cmpR (op_eqD hr.units) (pv 14) (pv 10) (nomark _)) (pe_call (ok_l_tight T) (hr.mono (by decide)) (by rfl) T.g_l_tight T.F_l_tight.kp T.b_l_tight .nil pass0 (pa_cons (pv 6) (pa_cons (pv 13) (pa_cons (pv 11) pa_nil)))) (nomark _)))))
  (pss_one (ps_ret pe_bl))
  pss_nil))))
 (pss_one (ps_for PassesOwn.never rfl (pi_range1 (by rfl) T.z_range (pa_cons pe_int pa_nil)) (pg_name (i := 15) sc_law.nd rfl (.inl rfl))
  (pss_one (ps_if (pt_val (pe_call (ok_l_below T) (hr.mono (by decide)) (by rfl) T.g_l_below T.F_l_below.kp T.b_l_below .nil pass0 (pa_cons (pv 10) (pa_cons (pe_call (ok_l_brought T) (hr.mono (by decide)) (by rfl) T.g_l_brought T.F_l_brought.kp T.b_l_brought .nil pass0 (pa_cons (pe_call (ok_l_top_prices T) (hr.mono (by decide)) (by rfl) T.g_l_top_prices T.F_l_top_prices.kp T.b_l_top_prices .nil pass0 (pa_cons (pv 2) (pa_cons (pv 6) pa_nil))) (pa_cons (pv 4) (pa_cons (pv 5) pa_nil)))) pa_nil))))
  (pss_one (ps_ret pe_bl))
  pss_nil))))))))))))))))
 (pss_one (ps_ret pe_bl))), ?_⟩
    refine ⟨_, rfl, 4, rfl, a, _, rfl, hS, fun c1 n1 => ?_⟩
    refine ⟨by show 2 ≤ sizeLine; decide, fun c2 n2 => ?_⟩
    have ne12 : c1 ≠ c2 := fun z => by
      rw [← z, upd_same] at n2
      cases n2
    refine ⟨c1, c2, _, _, rfl, rfl, by rw [upd_ne ne12]; exact upd_same, upd_same, ?_, fun c3 n3 => ?_⟩
    · have := cutV_length (ns.map V.int) none (some 4)
      rw [List.length_map] at this
      exact Nat.le_of_lt (small1000 (by show _ + 2 ≤ 1000; omega))
    generalize hH0 : upd (upd (upd H c1 (.lst (cutV (ns.map V.int) none (some 4)))) c2 (.lst [.int 0, .int 1])) c3 (.lst (cutV (ns.map V.int) none (some 4) ++ [.int 0, .int 1])) = H0
    have hc3 : H0 c3 = some (.lst (cutV (ns.map V.int) none (some 4) ++ [.int 0, .int 1])) := by
      rw [← hH0]
      exact upd_same
    refine ⟨c3, rfl, ⟨_, SqL.of hc3⟩, for_list (K := K) (a := c3) (xs := cutV (ns.map V.int) none (some 4) ++ [.int 0, .int 1])
      (fun i σ H' => ∃ y1 y2 y3 y4 y5 y6 y7 y8 y9 y10 y11 y12 y13 y14 y15 y16 y17, σ = [some (.ref a), y1, y2, y3, y4, y5, y6, y7, y8, y9, y10, y11, y12, y13, y14, y15, y16, y17] ∧ Same H0 H') ⟨_, _, _, _, _, _, _, _, _, _, _, _, _, _, _, _, _, rfl, Same.refl _⟩ (fun i σ H' _ h => ?_) (fun i x σ H' hx h => ?_) (fun σ H' h => ?_)⟩
    · obtain ⟨_, _, _, _, _, _, _, _, _, _, _, _, _, _, _, _, _, _, s0⟩ := h
      exact s0.seq (SqL.of hc3)
    · obtain ⟨y1, y2, y3, y4, y5, y6, y7, y8, y9, y10, y11, y12, y13, y14, y15, y16, y17, rfl, s0⟩ := h
      obtain ⟨z, rfl⟩ := cells_int (more := [0, 1]) hx
      refine ⟨_, rfl, z, rfl, fun aw H1 nA sA wA => ?_⟩
      have w1 := wA.mono (show 6000 ≤ 1099511627776 by decide)
      refine ⟨_, rfl, by show 4 ≤ sizeLine; decide, fun p1 n1 => ?_⟩
      obtain ⟨w2, s2⟩ := well_new (o := .lst [.int 4, .int 4, .int 4, .int 8]) w1 n1
      refine ⟨aw, p1, _, 5999, rfl, w2, sqL_hid w1 n1, by decide, by decide, fun i2 x2 H2 hx2 s3 w3 => ?_⟩
      obtain ⟨mo, rfl, mo0, mo1⟩ : ∃ mo : Nat, x2 = .int mo ∧ 0 < mo ∧ mo ≤ 8 := by
        rcases mem4 hx2 with e | e | e | e
        · exact ⟨4, e, by decide, by decide⟩
        · exact ⟨4, e, by decide, by decide⟩
        · exact ⟨4, e, by decide, by decide⟩
        · exact ⟨8, e, by decide, by decide⟩
      have sB : Same H0 (hid aw H2) := s0.trans (sA.trans (s2.trans s3))
      -- heaps
      refine ⟨_, rfl, _, rfl, _, rfl, aw, mo, 5998, rfl, w3, by omega, log_small (by omega), fun d H3 d0 d1 s4 w4 => ⟨_, _, rfl, rfl, ?_⟩⟩
      obtain ⟨m, hm, m0, m12⟩ : ∃ m : Nat, 1 + d = (m : Int) ∧ 0 < m ∧ m ≤ 8 := ⟨(1 + d).toNat, by omega, by omega, by omega⟩
      dsimp only
      rw [hm]
      refine ⟨aw, m, 5900, rfl, w4.mono (by decide), m0, by omega, fun H4 pf pl npf s5 w5 hpl lpl okp => ?_⟩
      refine ⟨_, rfl, _, rfl, _, rfl, aw, mo, 5800, rfl, w5.mono (by decide), by omega, log_small (by omega), fun d' H5 d0' d1' s6 w6 => ⟨_, _, rfl, rfl, ?_⟩⟩
      obtain ⟨k, hk, k0, k12⟩ : ∃ k : Nat, 1 + d' = (k : Int) ∧ 0 < k ∧ k ≤ 8 := ⟨(1 + d').toNat, by omega, by omega, by omega⟩
      dsimp only
      rw [hk]
      refine ⟨aw, k, 5700, rfl, w6.mono (by decide), k0, by omega, fun H6 pg ql npg s7 w7 hql lql okq => ?_⟩
      have hpl := hpl.mono (s6.trans s7)
      obtain ⟨_, pvs, ceq, epf, apf⟩ := id hpl
      cases ceq
      obtain ⟨_, qvs, ceq, epg, apg⟩ := id hql
      cases ceq
      have g6 : Same (hid aw H6) H6 := hid_same
      -- costs
      refine ⟨_, rfl, _, rfl, pf, pvs, rfl, .inl (SqL.of (g6 _ _ epf)), _, rfl, pg, qvs, rfl, .inl (SqL.of (g6 _ _ epg)), aw, m, k, 5500, by rw [apf.1, apg.1, lpl, lql]; rfl, w7.mono (by decide), by omega, by omega, fun H7 pc css b npc s8 w8 hcs lcs C nn => ?_⟩
      have hpl7 := hpl.mono s8
      have hql7 := hql.mono s8
      have s07 : Same H0 (hid aw H7) := sB.trans (s4.trans (s5.trans (s6.trans (s7.trans s8))))
      rw [← lql] at C
      have gp := okp.g
      have gq := okq.g
      have g7 : Same (hid aw H7) H7 := hid_same
      have cb0 := C.b0
      have cb := C.b1
      have bcs : ∀ l ∈ css, ∀ x ∈ l, Bd 40 x := fun l hl x hx => ((C.row l hl).2 x hx).bd cb0 (by omega) (by omega)
      refine ⟨_, rfl, .ref pc, css, rfl, tbl_mono' hcs g7, fun l hl => ⟨by rw [(C.row l hl).1]; omega, fun x hx => (bcs l hl x hx).mono (by decide)⟩, by omega, fun A1 q1 na1 sa1 t1 => ?_⟩
      refine ⟨_, rfl, .ref pf, pl, rfl, (hpl7.mono g7).mono sa1, fun x hx => (heap_bd21 gp x hx).mono (by decide), by omega, fun A2 q2 na2 sa2 t2 => ?_⟩
      refine ⟨_, rfl, .ref pg, ql, rfl, ((hql7.mono g7).mono sa1).mono sa2, fun x hx => (heap_bd21 gq x hx).mono (by decide), by omega, fun A3 q3 na3 sa3 t3 => ?_⟩
      refine ⟨.ref q1, .ref q2, .ref q3, css, pl, ql, b, rfl, tbl_mono t1 (sa2.trans sa3), t2.mono sa3, t3, gp, gq, by omega, by omega, by omega, by omega, by omega, C.g, nn, fun H8 r c pln x y pr u Pf Qf rys G U s8' er epr ny epl fresh all hx hy hcst eU eG W bP bQ => ?_⟩
      refine ⟨r, _, rfl, .inl (.inl er), rfl, _, _, rfl, _, _, rfl, _, _, rfl, rfl, ?_⟩
      have s78 := sa1.trans (sa2.trans (sa3.trans s8'))
      have U0 : 0 < U := by rw [eU]; exact lcmOn_pos _ _ (by decide)
      have G0 : 0 < G := by rw [eG]; exact lcmOn_pos _ _ (by decide)
      have dd1 : ∀ x ∈ pl, x.den ∣ G := fun x hx => by rw [eG]; exact den_dvd_lcm _ _ _ (List.mem_append_left _ hx)
      have dd2 : ∀ x ∈ ql, x.den ∣ G := fun x hx => by rw [eG]; exact den_dvd_lcm _ _ _ (List.mem_append_right _ hx)
      have dU : ∀ l ∈ css, ∀ x ∈ l, x.den ∣ U := fun l hl x hx => by rw [eU]; exact den_dvd_lcm _ _ _ (List.mem_flatten.mpr ⟨l, hl, hx⟩)
      have Gb : G ≤ 10000000000 := by
        obtain ⟨S1, a0, a1, aS⟩ := gp.den
        obtain ⟨S2, c0, c1, cS⟩ := gq.den
        have : G ∣ S1 * S2 := by
          rw [eG]
          refine lcm_of _ _ (Nat.one_dvd _) fun x hx => ?_
          rcases List.mem_append.mp hx with h | h
          · exact Nat.dvd_trans (aS x h) (Nat.dvd_mul_right _ _)
          · exact Nat.dvd_trans (cS x h) (Nat.dvd_mul_left _ _)
        have h1 := Nat.le_of_dvd (Nat.mul_pos a0 c0) this
        have h2 : S1 * S2 ≤ 100000 * 100000 := Nat.mul_le_mul a1 c1
        omega
      have lcp : css.length = pl.length := by omega
      have Np := plan_nice W (tops_nn gp.nn) (tops_one_sum G0 dd1 gp.one) G0 Gb (by omega)
      have O := W.opt U0 G0 lcp (fun l hl => (C.row l hl).1) dU dd1 dd2
      have ed : dot css.flatten (planOf pl.length ql.length G u).flatten = Rat.divInt (costI (wholeC U css) pl.length ql.length u) (U * G : Nat) := by
        have := dot_cost (G := G) U0 (fun l hl => (C.row l hl).1) dU u
        rwa [lcp] at this
      have bdv := cost_bd C.g Np (by omega) (by omega)
      rw [ed] at hcst bdv
      generalize Rat.divInt (costI (wholeC U css) pl.length ql.length u) (U * G : Nat) = val at hcst bdv O
      have lhs : (pricesOf pl.length U Pf).length = pl.length := by unfold pricesOf; rw [List.length_map, List.length_range]
      have lts : (pricesOf ql.length U Qf).length = ql.length := by unfold pricesOf; rw [List.length_map, List.length_range]
      have Ub : U ≤ 12 := by
        have : U ∣ b := by
          rw [eU]
          refine lcm_of _ _ (Nat.one_dvd _) fun x hx => ?_
          obtain ⟨l, hl, hx⟩ := mem_rows hx
          exact ((C.row l hl).2 x hx).den
        have := Nat.le_of_dvd cb0 this
        omega
      have bhs : ∀ x ∈ pricesOf pl.length U Pf, Bd 100 x := fun x hx => by
        obtain ⟨i, hi, rfl⟩ := List.mem_map.mp hx
        have := bP i (List.mem_range.mp hi)
        exact Bd.divInt (by omega) (by omega) (by omega)
      have bts : ∀ x ∈ pricesOf ql.length U Qf, Bd 100 x := fun x hx => by
        obtain ⟨i, hi, rfl⟩ := List.mem_map.mp hx
        have := bQ i (List.mem_range.mp hi)
        exact Bd.divInt (by omega) (by omega) (by omega)
      generalize pricesOf pl.length U Pf = hs at hx lhs bhs O
      generalize pricesOf ql.length U Qf = ts at hy lts bts O
      -- the cost as a pair
      refine ⟨_, rfl, c, val, rfl, hcst, bdv.mono (by decide), fun H9 rd s9 hd => ?_⟩
      have epr9 := s9 _ _ epr
      have hx9 := hx.mono s9
      have hy9 := hy.mono s9
      -- the prices as pairs
      refine ⟨_, rfl, pr, rfl, ⟨_, .inl (.inl epr9)⟩, fun D nD => lc_allW (walk_tup (K := K) (a := pr) (xs := [.ref x, .ref y])) (fun i y G => ∃ l, [hs, ts][i]? = some l ∧ IsPrs G y l) (fun _ _ _ _ s ⟨l, h1, h2⟩ => ⟨l, h1, h2.mono s⟩) nD (fun H' s => .inl (.inl (s _ _ epr9))) (by show 2 ≤ 1000; decide) (fun i x2 H10 H10' kk il s10 eD yy hk => ?_) (fun H10 ys10 s10 e10 l10 r10 => ?_)⟩
      · obtain ⟨rfl, hi⟩ := yy
        obtain ⟨l, hl, hxl, bl, ll⟩ : ∃ l, [hs, ts][i]? = some l ∧ IsShares T.c_Share H9 x2 l ∧ (∀ z ∈ l, Bd 100 z) ∧ l.length ≤ 12 := by
          match i, hi with
          | 0, hi => cases hi; exact ⟨hs, rfl, hx9, bhs, by omega⟩
          | 1, hi => cases hi; exact ⟨ts, rfl, hy9, bts, by omega⟩
          | i + 2, hi => simp at hi
        have S2 := s10.trans (hid_same (a := D))
        obtain ⟨pz, zs, rfl, ez, az⟩ := hxl.mono S2
        have lz := az.1
        refine ⟨rfl, _, look1s (by simp), pz, rfl, ⟨_, SqL.of ez⟩, fun D2 nD2 => lc_all (K := K) (a := pz) (xs := zs) (fun j y G => ∃ z, l[j]? = some z ∧ IsPr G y z) (fun _ _ _ _ s ⟨z, h1, h2⟩ => ⟨z, h1, h2.mono s⟩) nD2 (SqL.of ez) (by omega) (fun j x3 H11 k2 hj s11 eD2 hk2 => ?_) (fun H11 ys11 s11 e11 l11 r11 => ?_)⟩
        · obtain ⟨z2, hz, hzx⟩ := az.at hj
          refine ⟨rfl, _, look1s (by simp [wipe_length]), _, z2, rfl, hzx.mono (s11.trans hid_same), (bl z2 (List.mem_of_getElem? hz)).mono (by decide), fun H12 r12 s12 h12 => hk2 _ _ s12 ⟨z2, hz, h12.hidL ?_⟩⟩
          obtain ⟨ys', e'⟩ := eD2
          exact ⟨ys', s12 _ _ e'⟩
        · refine hk _ _ (s11.trans hid_same) ⟨l, hl, IsPrs.hidN ?_ ?_ ⟨D2, ys11, rfl, e11, .of_ix (by rw [l11, lz]) fun j y hy => ?_⟩⟩
          · obtain ⟨ys', e'⟩ := eD
            exact fun z => by (rw [z, e'] at nD2; cases nD2)
          · obtain ⟨ys', e'⟩ := eD
            exact ⟨ys', hid_same _ _ (s11 _ _ e')⟩
          · obtain ⟨z2, h1, h2⟩ := r11 j y hy
            exact ⟨z2, h1, h2.mono hid_same⟩
      obtain ⟨hv, tv, rfl⟩ : ∃ hv tv, ys10 = [hv, tv] := by
        match ys10, l10 with
        | [a, b], _ => exact ⟨a, b, rfl⟩
      obtain ⟨_, el, hhv⟩ := r10 0 hv rfl
      cases el
      obtain ⟨_, el, htv⟩ := r10 1 tv rfl
      cases el
      have hhv := hhv.mono (hid_same (a := D))
      have htv := htv.mono (hid_same (a := D))
      have s910 := s10.trans (hid_same (a := D))
      have s710 := s78.trans (s9.trans s910)
      have wP := w8.same s710
      have sh7 := hid_mono (a := aw) s710
      -- twenty plans
      refine ⟨_, rfl, by decide, by decide, fun E nE => lc_wellR (lo := 0) (n := (20 : Int).toNat) (a := aw) (fun y G => ∃ X, IsTbl IsPrs G y (tabF pl.length ql.length X) ∧ PlanOk pl.length ql.length (at0 pl) (at0 ql) X) (fun _ _ _ s h => h.elim fun X h => ⟨X, tbl_mono' h.1 s, h.2⟩) 150 2300 nE (wP.mono (by decide)) (by decide) (fun i2 H12 n2 k2 hi2 w12 s12 eE hk => ?_) (fun H12 ys s12 w12 e12 l12 r12 => ?_)⟩
      · have nEa : E ≠ aw := wP.ne nE
        have s12' := s12.trans (hid_same (a := E))
        refine ⟨rfl, _, look1o rfl (by decide) (by decide), _, look1o rfl (by decide) (by decide), _, look1o rfl (by decide) (by decide), aw, .ref pf, .ref pg, pl, ql, n2, rfl, w12, (hpl7.mono sh7).mono s12', (hql7.mono sh7).mono s12', okp, okq, by omega, by omega, fun H13 p13 vs X np s13 w13 e13 a13 fr ok => hk _ _ s13 w13 ⟨X, ?_, ok⟩⟩
        obtain ⟨ys', e'⟩ := eE
        have eE13 : hid aw H13 E = some (.lst ys') := s13 _ _ (by rw [hid_ne nEa]; exact e')
        have nEp : p13 ≠ E := fun z => by
          rw [z, e'] at np
          cases np
        refine ⟨p13, vs, rfl, by rw [hid_ne nEp]; exact e13, .of_ix a13.1 fun i v hv => ?_⟩
        obtain ⟨r2, h1, h2⟩ := a13.at hv
        obtain ⟨q2, rfl, nq⟩ := fr v (List.mem_of_getElem? hv)
        exact ⟨r2, h1, h2.hidN (fun z => by rw [z, e'] at nq; cases nq) ⟨ys', eE13⟩⟩
      have l20 : ys.length = 20 := l12
      have s12' := s12.trans (hid_same (a := E))
      have sh12 := sh7.trans s12'
      have sP : Same (hid aw H10) (hid aw H12) := s12'
      have h0 := List.getElem?_eq_getElem (show 0 < ys.length by omega)
      have h1 := List.getElem?_eq_getElem (show 1 < ys.length by omega)
      obtain ⟨X0, hX0, ok0⟩ := r12 _ (List.mem_of_getElem? h0)
      obtain ⟨X1, hX1, ok1⟩ := r12 _ (List.mem_of_getElem? h1)
      generalize ys[0]'(by omega) = b0' at h0 hX0
      generalize ys[1]'(by omega) = b1' at h1 hX1
      -- two of them mixed
      refine ⟨_, rfl, .inl ⟨rfl, _, SqL.of e12⟩, _, rfl, E, _, _, _, rfl, rfl, SqL.of e12, atI_nat (j := 0) h0, _, rfl, E, _, _, _, rfl, rfl, SqL.of e12, atI_nat (j := 1) h1, _, rfl, by show 2 ≤ sizeLine; decide, fun u1 k1 => ?_⟩
      have v1 := same_upd (o := .tup [.int 1, .int 2]) k1
      refine ⟨by show 2 ≤ sizeLine; decide, fun u2 k2 => ?_⟩
      have v2 := same_upd (o := .tup [.int 1, .int 7]) k2
      refine ⟨by show 2 ≤ sizeLine; decide, fun u3 k3 => ?_⟩
      have v3 := same_upd (o := .tup [.int 5, .int 6]) k3
      refine ⟨by show 3 ≤ sizeLine; decide, fun u4 k4 => ?_⟩
      have v13 := v1.trans (v2.trans v3)
      have wv := w12.same v13
      obtain ⟨w14, s14⟩ := well_new (o := .lst [.ref u1, .ref u2, .ref u3]) wv k4
      refine ⟨aw, u4, _, 2200, rfl, w14.mono (by decide), sqL_hid wv k4, by simp, by simp, fun i15 av H15 hav s15 w15 => ?_⟩
      have s1215 := (hid_mono (a := aw) v13).trans (s14.trans s15)
      have g15 : Same (hid aw H15) H15 := hid_same
      obtain ⟨α, hα, a0, a1, an⟩ : ∃ α : Rat, IsPr H15 av α ∧ 0 ≤ α ∧ α ≤ 1 ∧ α.den ∣ 42 := by
        have up : ∀ {v : V} {y : Rat}, IsPr (upd (upd (upd H12 u1 (.tup [.int 1, .int 2])) u2 (.tup [.int 1, .int 7])) u3 (.tup [.int 5, .int 6])) v y → IsPr H15 v y := fun h => IsTup2.mono (IsTup2.mono (IsTup2.hid wv h) (s14.trans s15)) hid_same
        rcases mem3 hav with e | e | e
        · rw [e]
          exact ⟨Rat.divInt 1 2, up (pr_of ((v2.trans v3) _ _ upd_same) (by decide +kernel) (by decide +kernel)), by decide +kernel, by decide +kernel, by decide +kernel⟩
        · rw [e]
          exact ⟨Rat.divInt 1 7, up (pr_of (v3 _ _ upd_same) (by decide +kernel) (by decide +kernel)), by decide +kernel, by decide +kernel, by decide +kernel⟩
        · rw [e]
          exact ⟨Rat.divInt 5 6, up (pr_of upd_same (by decide +kernel) (by decide +kernel)), by decide +kernel, by decide +kernel, by decide +kernel⟩
      have nEa : E ≠ aw := wP.ne nE
      have e15 : H15 E = some (.lst ys) := g15 _ _ (s1215 _ _ (by rw [hid_ne nEa]; exact e12))
      have tbA : ∀ {v : V} {X : Nat → Nat → Rat}, IsTbl IsPrs (hid E (hid aw H12)) v (tabF pl.length ql.length X) → IsTbl IsPrs (hid E H15) v (tabF pl.length ql.length X) := fun h => tbl_mono' h ((hid_mono s1215).trans (hid_mono hid_same))
      obtain ⟨PX0, SX0, sx0, sx1, nX0⟩ := ok0.x
      obtain ⟨PX1, SX1, sy0, sy1, nX1⟩ := ok1.x
      have hX0' : IsTbl IsPrs H15 b0' (tabF pl.length ql.length X0) := tbl_mono' (tbA hX0) hid_same
      have hX1' : IsTbl IsPrs H15 b1' (tabF pl.length ql.length X1) := tbl_mono' (tbA hX1) hid_same
      refine ⟨b0', b1', av, pl.length, ql.length, SX0, SX1, X0, X1, α, rfl, hX0', hX1', hα, nice_unit an a0 a1, by omega, by omega, sx0, sx1, sy0, sy1, nX0, nX1, fun H16 pm mvs npm s16 epm apm fr => ?_⟩
      have e16 := s16 _ _ e15
      refine ⟨E, ys, .ref pm, rfl, rfl, e16, small1000 (by omega), ?_⟩
      have npE : pm ≠ E := fun z => by
        rw [z, e15] at npm
        cases npm
      have hAll : ∀ v ∈ ys ++ [V.ref pm], ∃ X, IsTbl IsPrs (hid E (upd H16 E (.lst (ys ++ [.ref pm])))) v (tabF pl.length ql.length X) ∧ PlanX pl.length ql.length (at0 pl) (at0 ql) 100000000000000 X := fun v hv => by
        rw [hid_upd]
        rcases List.mem_append.mp hv with hv | hv
        · obtain ⟨X, h, ok⟩ := r12 v hv
          obtain ⟨P1, S1, a, b, c⟩ := ok.x
          exact ⟨X, tbl_mono' (tbA h) (hid_mono s16), P1, S1, a, by omega, c⟩
        · rw [List.mem_singleton.mp hv]
          refine ⟨_, ⟨pm, mvs, rfl, by rw [hid_ne npE]; exact epm, .of_ix apm.1 fun i v hv => ?_⟩, PlanX.mixed ok0.x ok1.x a0 a1 an⟩
          obtain ⟨r2, h1, h2⟩ := apm.at hv
          obtain ⟨q2, rfl, nq⟩ := fr v (List.mem_of_getElem? hv)
          exact ⟨r2, h1, h2.hidN (fun z => by rw [z, e15] at nq; cases nq) ⟨ys, e16⟩⟩
      have s1017 : Same (hid aw H10) (hid aw (upd H16 E (.lst (ys ++ [.ref pm])))) := by
        rw [hid_updN nEa]
        exact same_over (s12'.trans (s1215.trans (hid_mono s16))) (by rw [hid_ne nEa]; exact nE)
      have w17 : WellAt (upd H16 E (.lst (ys ++ [.ref pm]))) aw 2200 := (w15.same s16).upd nEa
      have e17 := @upd_same H16 E (.lst (ys ++ [.ref pm]))
      generalize upd H16 E (.lst (ys ++ [.ref pm])) = H17 at *
      have g17 : Same (hid aw H17) H17 := hid_same
      have s717 := sh7.trans s1017
      have hcs17 := tbl_mono' (tbl_mono' hcs s717) g17
      have hpl17 := (hpl7.mono s717).mono g17
      have hql17 := (hql7.mono s717).mono g17
      have hd17 : IsPr H17 rd val := IsTup2.mono (IsTup2.mono (IsTup2.hid wP (IsTup2.mono hd s910)) s1017) g17
      have nDa : D ≠ aw := (w8.same (s78.trans s9)).ne nD
      have eD17 : H17 D = some (.lst [hv, tv]) := g17 _ _ (s1017 _ _ (by rw [hid_ne nDa]; exact e10))
      have hh17 := ((hhv.hidW wP).mono s1017).mono g17
      have ht17 := ((htv.hidW wP).mono s1017).mono g17
      refine ⟨_, rfl, E, rfl, ⟨_, SqL.of e17⟩, for_list (K := K) (a := E) (xs := ys ++ [.ref pm]) (fun i σ H' => ∃ y13 y14 y15 y16 y17, σ = [some (.ref a), some (.int z), some (.ref aw), some (.int mo), some (.ref pf), some (.ref pg), some (.ref pc), some c, some (.ref pln), some (.ref pr), some rd, some (.ref D), some (.ref E), y13, y14, y15, y16, y17] ∧ Same H17 H') ⟨_, _, _, _, _, rfl, .refl _⟩ (fun i σ H' _ h => ?_) (fun i v σ H' hvi h => ?_) (fun σ H' h => ?_)⟩
      · obtain ⟨_, _, _, _, _, _, s1⟩ := h
        exact s1.seq (SqL.of e17)
      · obtain ⟨y13, y14, y15, y16, y17, rfl, s18⟩ := h
        obtain ⟨X, hX, PX⟩ := hAll v (List.mem_of_getElem? hvi)
        have hX := (tbl_mono' (tbl_mono' hX hid_same) s18)
        obtain ⟨S, PM⟩ := PX.m (show ql.length ≤ 12 by omega) (Nat.le_refl _)
        refine ⟨_, rfl, _, rfl, .ref pc, v, css, _, ql.length, b, S, rfl, tbl_mono' hcs17 s18, hX, C, PM, by omega, by rw [tabF_len]; omega, fun i c p h1 h2 => by rw [(C.row c (List.mem_of_getElem? h1)).1, (tabF_mem (List.mem_of_getElem? h2)).1], fun H19 rs s19 hs' => ?_⟩
        rw [dot_spent lcp (fun r hr => (C.row r hr).1)] at hs'
        have ub := O.ub PX.1
        have bsp : Bd 100 (spent pl.length ql.length (cAt css) X) := by
          rw [← dot_spent lcp (fun r hr => (C.row r hr).1)]
          exact dot_planM C PM (by omega) (by rw [tabF_len]; omega) fun i c p h1 h2 => by rw [(C.row c (List.mem_of_getElem? h1)).1, (tabF_mem (List.mem_of_getElem? h2)).1]
        have s1719 := s18.trans s19
        refine ⟨_, rfl, _, rfl, _, _, _, _, rfl, hs', IsTup2.mono hd17 s1719, bsp.mono (by decide), bdv.mono (by decide), _, rfl, ?_⟩
        rw [decide_eq_false (Rat.not_lt.mpr ub)]
        refine iteF ?_
        refine ⟨_, rfl, _, rfl, _, _, IsTup2.dp hs', (IsTup2.mono hd17 s1719).dp, rfl, rfl, ?_⟩
        rw [eqv_tup2]
        refine ⟨_, rfl, _, rfl, _, rfl, .ref pc, v, D, hv, tv, css, pl.length, ql.length, S, X, hs, ts, rfl, tbl_mono' hcs17 s1719, tbl_mono' hX s19, s1719 _ _ eD17, hh17.mono s1719, ht17.mono s1719, lcp, fun l hl => ⟨(C.row l hl).1, fun x hx => (bcs l hl x hx).mono (by decide)⟩, by omega, by omega, lhs, lts, fun x hx => (bhs x hx).mono (by decide), fun x hx => (bts x hx).mono (by decide), fun H20 bb s20 hbb => ⟨rfl, _, rfl, ?_⟩⟩
        by_cases e : spent pl.length ql.length (cAt css) X = val
        · have eb := hbb.mpr ((O.tight PX.1).mp e)
          rw [e, beq_self_eq_true, beq_self_eq_true, eb]
          exact iteF ⟨_, _, _, _, _, rfl, s1719.trans s20⟩
        · have eb : bb = false := by
            cases bb with
            | false => rfl
            | true => exact absurd ((O.tight PX.1).mpr (hbb.mp rfl)) e
          rw [pr_ne e, eb]
          exact iteF ⟨_, _, _, _, _, rfl, s1719.trans s20⟩
      · obtain ⟨y13, y14, y15, y16, y17, rfl, s18⟩ := h
        refine ⟨_, rfl, by decide, by decide, for_range (lo := 0) (n := (10 : Int).toNat) (fun j σ H'' => ∃ y13 y14 y15 y16 y17, σ = [some (.ref a), some (.int z), some (.ref aw), some (.int mo), some (.ref pf), some (.ref pg), some (.ref pc), some c, some (.ref pln), some (.ref pr), some rd, some (.ref D), some (.ref E), y13, y14, y15, y16, y17] ∧ Same (hid aw H17) (hid aw H'') ∧ WellAt H'' aw (2200 - 24 * j)) ⟨_, _, _, _, _, rfl, hid_mono s18, w17.same s18⟩ (fun j σ H2' hj h => ?_) (fun σ H2' h => ?_)⟩
        · obtain ⟨y13, y14, y15, y16, y17, rfl, s19, w19⟩ := h
          have hj : j < 10 := hj
          have s719 := s717.trans s19
          have hd19 : IsPr (hid aw H2') rd val := IsTup2.mono (IsTup2.mono (IsTup2.hid wP (IsTup2.mono hd s910)) s1017) s19
          refine ⟨_, rfl, _, rfl, _, rfl, aw, .ref pc, css, ql.length, b, 2200 - 24 * (j + 1), rfl, w19.mono (by omega), tbl_mono' hcs s719, C, by omega, by omega, by omega, by omega, fun H20 p20 x20 y20 hs' ts' s20 w20 ep20 hx20 hy20 lh' lt' bh' bt' le' => ?_⟩
          have s720 := s719.trans s20
          have g20 : Same (hid aw H20) H20 := hid_same
          refine ⟨_, rfl, _, rfl, p20, x20, y20, .ref pf, .ref pg, hs', ts', pl, ql, rfl, ep20, hx20, hy20, (hpl7.mono s720).mono g20, (hql7.mono s720).mono g20, bh', bt', heap_bd21 gp, heap_bd21 gq, by omega, by omega, by omega, by omega, fun H21 r21 s21 h21 bd21 => ?_⟩
          have lb := O.lb (h' := at0 hs') (t' := at0 ts') fun i hi j hj => le' i (by omega) j hj
          have eg : gain pl.length ql.length (at0 pl) (at0 ql) (at0 hs') (at0 ts') = dot hs' pl - dot ts' ql := by
            rw [dot_at0 (ps := hs') (qs := pl) (n := pl.length) (by omega) rfl, dot_at0 (ps := ts') (qs := ql) (n := ql.length) lt' rfl]
            rfl
          rw [eg] at lb
          refine ⟨_, _, _, _, rfl, IsTup2.mono (IsTup2.mono (IsTup2.mono hd19 s20) g20) s21, h21, bdv.mono (by decide), bd21, _, rfl, ?_⟩
          rw [decide_eq_false (Rat.not_lt.mpr lb)]
          exact iteF ⟨_, _, _, _, _, rfl, s19.trans (s20.trans (hid_mono s21)), w20.same s21⟩
        · obtain ⟨y13, y14, y15, y16, y17, rfl, s19, w19⟩ := h
          exact ⟨_, _, _, _, _, _, _, _, _, _, _, _, _, _, _, _, _, rfl, s07.trans ((s717.trans s19).trans hid_same)⟩
    · obtain ⟨_, _, _, _, _, _, _, _, _, _, _, _, _, _, _, _, _, rfl, _⟩ := h
      exact q _
end

end Fb

namespace Fb
open PySem PySem.Spec PyProof.Rows L2
set_option maxHeartbeats 4000000 in
theorem all_mk {l : PySem.W.OpenLaw} {w : World} {K : PySem.W.Frag} {h : Heap} {mg : Str → Option Value} {fa : Addr} (X : K.In h) (G : h.Ns mainGlobals mg) (hfa : mg "law" = some (.ref fa))
    {c_FarError c_NoShare c_NoHeap c_NoCosts c_Share c_Haul f_p__wall f_p_written f_p_is_whole f_m_Share_init t_m_Share_init f_m_Share_eq f_m_Share_str f_p_common_part f_p_common_multiple f_p_common_bottom f_p_tops_over f_p_sum_of f_m_Haul_init f_m_Haul_cheapen f_m_Haul_paid f_m_Haul_plan f_m_Haul_prices f_p_in_parts f_p_all_prices f_p_first_tree f_p_unit_for f_p_rounded f_p_greedy_tree f_p_hang f_p_widest_gap f_p_exchange f_p_are_shares f_p_are_amounts f_p_is_table f_p_is_heap f_p_joined f_p_weighed f_p_cost_of f_p_cheapest f_p_shares_over f_l_well f_l_draw f_l_one f_l_low f_l_pair f_l_heap f_l_costs f_l_shares f_l_rows f_l_added f_l_total f_l_by f_l_below f_l_filled f_l_cost f_l_less f_l_top_prices f_l_brought f_l_mixed f_l_tight f_law : Addr} {od_p__wall an_p__wall od_p_written an_p_written od_p_is_whole an_p_is_whole od_m_Share_init an_m_Share_init odt_m_Share_init od_m_Share_eq an_m_Share_eq od_m_Share_str an_m_Share_str od_p_common_part an_p_common_part od_p_common_multiple an_p_common_multiple od_p_common_bottom an_p_common_bottom od_p_tops_over an_p_tops_over od_p_sum_of an_p_sum_of od_m_Haul_init an_m_Haul_init od_m_Haul_cheapen an_m_Haul_cheapen od_m_Haul_paid an_m_Haul_paid od_m_Haul_plan an_m_Haul_plan od_m_Haul_prices an_m_Haul_prices od_p_in_parts an_p_in_parts od_p_all_prices an_p_all_prices od_p_first_tree an_p_first_tree od_p_unit_for an_p_unit_for od_p_rounded an_p_rounded od_p_greedy_tree an_p_greedy_tree od_p_hang an_p_hang od_p_widest_gap an_p_widest_gap od_p_exchange an_p_exchange od_p_are_shares an_p_are_shares od_p_are_amounts an_p_are_amounts od_p_is_table an_p_is_table od_p_is_heap an_p_is_heap od_p_joined an_p_joined od_p_weighed an_p_weighed od_p_cost_of an_p_cost_of od_p_cheapest an_p_cheapest od_p_shares_over an_p_shares_over od_l_well an_l_well od_l_draw an_l_draw od_l_one an_l_one od_l_low an_l_low od_l_pair an_l_pair od_l_heap an_l_heap od_l_costs an_l_costs od_l_shares an_l_shares od_l_rows an_l_rows od_l_added an_l_added od_l_total an_l_total od_l_by an_l_by od_l_below an_l_below od_l_filled an_l_filled od_l_cost an_l_cost od_l_less an_l_less od_l_top_prices an_l_top_prices od_l_brought an_l_brought od_l_mixed an_l_mixed od_l_tight an_l_tight od_law an_law : Option Addr} {sl_p__wall sl_p_written sl_p_is_whole sl_m_Share_init slt_m_Share_init sl_m_Share_eq sl_m_Share_str sl_p_common_part sl_p_common_multiple sl_p_common_bottom sl_p_tops_over sl_p_sum_of sl_m_Haul_init sl_m_Haul_cheapen sl_m_Haul_paid sl_m_Haul_plan sl_m_Haul_prices sl_p_in_parts sl_p_all_prices sl_p_first_tree sl_p_unit_for sl_p_rounded sl_p_greedy_tree sl_p_hang sl_p_widest_gap sl_p_exchange sl_p_are_shares sl_p_are_amounts sl_p_is_table sl_p_is_heap sl_p_joined sl_p_weighed sl_p_cost_of sl_p_cheapest sl_p_shares_over sl_l_well sl_l_draw sl_l_one sl_l_low sl_l_pair sl_l_heap sl_l_costs sl_l_shares sl_l_rows sl_l_added sl_l_total sl_l_by sl_l_below sl_l_filled sl_l_cost sl_l_less sl_l_top_prices sl_l_brought sl_l_mixed sl_l_tight sl_law : Array (Option Value)} {oc_p__wall kV_p__wall dc_p__wall pm_p__wall cd_p__wall ct_p__wall oc_p_written kV_p_written dc_p_written pm_p_written cd_p_written ct_p_written oc_p_is_whole kV_p_is_whole dc_p_is_whole pm_p_is_whole cd_p_is_whole ct_p_is_whole oc_m_Share_init kV_m_Share_init dc_m_Share_init pm_m_Share_init cd_m_Share_init ct_m_Share_init oct_m_Share_init oc_m_Share_eq kV_m_Share_eq dc_m_Share_eq pm_m_Share_eq cd_m_Share_eq ct_m_Share_eq oc_m_Share_str kV_m_Share_str dc_m_Share_str pm_m_Share_str cd_m_Share_str ct_m_Share_str oc_p_common_part kV_p_common_part dc_p_common_part pm_p_common_part cd_p_common_part ct_p_common_part oc_p_common_multiple kV_p_common_multiple dc_p_common_multiple pm_p_common_multiple cd_p_common_multiple ct_p_common_multiple oc_p_common_bottom kV_p_common_bottom dc_p_common_bottom pm_p_common_bottom cd_p_common_bottom ct_p_common_bottom oc_p_tops_over kV_p_tops_over dc_p_tops_over pm_p_tops_over cd_p_tops_over ct_p_tops_over oc_p_sum_of kV_p_sum_of dc_p_sum_of pm_p_sum_of cd_p_sum_of ct_p_sum_of oc_m_Haul_init kV_m_Haul_init dc_m_Haul_init pm_m_Haul_init cd_m_Haul_init ct_m_Haul_init oc_m_Haul_cheapen kV_m_Haul_cheapen dc_m_Haul_cheapen pm_m_Haul_cheapen cd_m_Haul_cheapen ct_m_Haul_cheapen oc_m_Haul_paid kV_m_Haul_paid dc_m_Haul_paid pm_m_Haul_paid cd_m_Haul_paid ct_m_Haul_paid oc_m_Haul_plan kV_m_Haul_plan dc_m_Haul_plan pm_m_Haul_plan cd_m_Haul_plan ct_m_Haul_plan oc_m_Haul_prices kV_m_Haul_prices dc_m_Haul_prices pm_m_Haul_prices cd_m_Haul_prices ct_m_Haul_prices oc_p_in_parts kV_p_in_parts dc_p_in_parts pm_p_in_parts cd_p_in_parts ct_p_in_parts oc_p_all_prices kV_p_all_prices dc_p_all_prices pm_p_all_prices cd_p_all_prices ct_p_all_prices oc_p_first_tree kV_p_first_tree dc_p_first_tree pm_p_first_tree cd_p_first_tree ct_p_first_tree oc_p_unit_for kV_p_unit_for dc_p_unit_for pm_p_unit_for cd_p_unit_for ct_p_unit_for oc_p_rounded kV_p_rounded dc_p_rounded pm_p_rounded cd_p_rounded ct_p_rounded oc_p_greedy_tree kV_p_greedy_tree dc_p_greedy_tree pm_p_greedy_tree cd_p_greedy_tree ct_p_greedy_tree oc_p_hang kV_p_hang dc_p_hang pm_p_hang cd_p_hang ct_p_hang oc_p_widest_gap kV_p_widest_gap dc_p_widest_gap pm_p_widest_gap cd_p_widest_gap ct_p_widest_gap oc_p_exchange kV_p_exchange dc_p_exchange pm_p_exchange cd_p_exchange ct_p_exchange oc_p_are_shares kV_p_are_shares dc_p_are_shares pm_p_are_shares cd_p_are_shares ct_p_are_shares oc_p_are_amounts kV_p_are_amounts dc_p_are_amounts pm_p_are_amounts cd_p_are_amounts ct_p_are_amounts oc_p_is_table kV_p_is_table dc_p_is_table pm_p_is_table cd_p_is_table ct_p_is_table oc_p_is_heap kV_p_is_heap dc_p_is_heap pm_p_is_heap cd_p_is_heap ct_p_is_heap oc_p_joined kV_p_joined dc_p_joined pm_p_joined cd_p_joined ct_p_joined oc_p_weighed kV_p_weighed dc_p_weighed pm_p_weighed cd_p_weighed ct_p_weighed oc_p_cost_of kV_p_cost_of dc_p_cost_of pm_p_cost_of cd_p_cost_of ct_p_cost_of oc_p_cheapest kV_p_cheapest dc_p_cheapest pm_p_cheapest cd_p_cheapest ct_p_cheapest oc_p_shares_over kV_p_shares_over dc_p_shares_over pm_p_shares_over cd_p_shares_over ct_p_shares_over oc_l_well kV_l_well dc_l_well pm_l_well cd_l_well ct_l_well oc_l_draw kV_l_draw dc_l_draw pm_l_draw cd_l_draw ct_l_draw oc_l_one kV_l_one dc_l_one pm_l_one cd_l_one ct_l_one oc_l_low kV_l_low dc_l_low pm_l_low cd_l_low ct_l_low oc_l_pair kV_l_pair dc_l_pair pm_l_pair cd_l_pair ct_l_pair oc_l_heap kV_l_heap dc_l_heap pm_l_heap cd_l_heap ct_l_heap oc_l_costs kV_l_costs dc_l_costs pm_l_costs cd_l_costs ct_l_costs oc_l_shares kV_l_shares dc_l_shares pm_l_shares cd_l_shares ct_l_shares oc_l_rows kV_l_rows dc_l_rows pm_l_rows cd_l_rows ct_l_rows oc_l_added kV_l_added dc_l_added pm_l_added cd_l_added ct_l_added oc_l_total kV_l_total dc_l_total pm_l_total cd_l_total ct_l_total oc_l_by kV_l_by dc_l_by pm_l_by cd_l_by ct_l_by oc_l_below kV_l_below dc_l_below pm_l_below cd_l_below ct_l_below oc_l_filled kV_l_filled dc_l_filled pm_l_filled cd_l_filled ct_l_filled oc_l_cost kV_l_cost dc_l_cost pm_l_cost cd_l_cost ct_l_cost oc_l_less kV_l_less dc_l_less pm_l_less cd_l_less ct_l_less oc_l_top_prices kV_l_top_prices dc_l_top_prices pm_l_top_prices cd_l_top_prices ct_l_top_prices oc_l_brought kV_l_brought dc_l_brought pm_l_brought cd_l_brought ct_l_brought oc_l_mixed kV_l_mixed dc_l_mixed pm_l_mixed cd_l_mixed ct_l_mixed oc_l_tight kV_l_tight dc_l_tight pm_l_tight cd_l_tight ct_l_tight oc_law kV_law dc_law pm_law cd_law ct_law : Value} {tk0_m_Share_init : _} {tkc_PIECE_LENGTH : _} {tkc_MOST_PLACES : _} {nt_m_Share_init : _}
    (a_FarError : PySem.W.nsIn K mainGlobals "FarError" = some (some (.ref c_FarError)))
    (a_NoShare : PySem.W.nsIn K mainGlobals "NoShare" = some (some (.ref c_NoShare)))
    (a_NoHeap : PySem.W.nsIn K mainGlobals "NoHeap" = some (some (.ref c_NoHeap)))
    (a_NoCosts : PySem.W.nsIn K mainGlobals "NoCosts" = some (some (.ref c_NoCosts)))
    (a_Share : PySem.W.nsIn K mainGlobals "Share" = some (some (.ref c_Share)))
    (a_Haul : PySem.W.nsIn K mainGlobals "Haul" = some (some (.ref c_Haul)))
    (a_p__wall : PySem.W.nsIn K mainGlobals "_wall" = some (some (.ref f_p__wall)))
    (l_p__wall : K.lookup f_p__wall = some ⟨oc_p__wall, od_p__wall, .func (PySem.W.fnOf "_wall" "_wall" (defArgs s_p__wall) (defBody s_p__wall) (defScope s_p__wall) .none kV_p__wall dc_p__wall pm_p__wall an_p__wall cd_p__wall ct_p__wall), sl_p__wall⟩)
    (c_p__wall_ : PySem.W.codeIn K cd_p__wall "_wall" = true)
    (k_p__wall_ : PySem.W.keepIn K (.ref f_p__wall) = true)
    (a_p_written : PySem.W.nsIn K mainGlobals "written" = some (some (.ref f_p_written)))
    (l_p_written : K.lookup f_p_written = some ⟨oc_p_written, od_p_written, .func (PySem.W.fnOf "written" "written" (defArgs s_p_written) (defBody s_p_written) (defScope s_p_written) .none kV_p_written dc_p_written pm_p_written an_p_written cd_p_written ct_p_written), sl_p_written⟩)
    (c_p_written_ : PySem.W.codeIn K cd_p_written "written" = true)
    (k_p_written_ : PySem.W.keepIn K (.ref f_p_written) = true)
    (a_p_is_whole : PySem.W.nsIn K mainGlobals "is_whole" = some (some (.ref f_p_is_whole)))
    (l_p_is_whole : K.lookup f_p_is_whole = some ⟨oc_p_is_whole, od_p_is_whole, .func (PySem.W.fnOf "is_whole" "is_whole" (defArgs s_p_is_whole) (defBody s_p_is_whole) (defScope s_p_is_whole) .none kV_p_is_whole dc_p_is_whole pm_p_is_whole an_p_is_whole cd_p_is_whole ct_p_is_whole), sl_p_is_whole⟩)
    (c_p_is_whole_ : PySem.W.codeIn K cd_p_is_whole "is_whole" = true)
    (k_p_is_whole_ : PySem.W.keepIn K (.ref f_p_is_whole) = true)
    (a_m_Share_init : PySem.W.findIn K (.ref c_Share) "__init__" = some (some (.ref f_m_Share_init)))
    (l_m_Share_init : K.lookup f_m_Share_init = some ⟨oc_m_Share_init, od_m_Share_init, .func (PySem.W.fnOf "__init__" "Share.__init__" (defArgs s_m_Share_init) (defBody s_m_Share_init) (defScope s_m_Share_init) (.ref t_m_Share_init) kV_m_Share_init dc_m_Share_init pm_m_Share_init an_m_Share_init cd_m_Share_init ct_m_Share_init), sl_m_Share_init⟩)
    (lt_m_Share_init : K.lookup t_m_Share_init = some ⟨oct_m_Share_init, odt_m_Share_init, .seq (List.toArray [Value.int 1 tk0_m_Share_init]) nt_m_Share_init, slt_m_Share_init⟩)
    (c_m_Share_init_ : PySem.W.codeIn K cd_m_Share_init "Share.__init__" = true)
    (k_m_Share_init_ : PySem.W.keepIn K (.ref f_m_Share_init) = true)
    (a_m_Share_eq : PySem.W.findIn K (.ref c_Share) "__eq__" = some (some (.ref f_m_Share_eq)))
    (l_m_Share_eq : K.lookup f_m_Share_eq = some ⟨oc_m_Share_eq, od_m_Share_eq, .func (PySem.W.fnOf "__eq__" "Share.__eq__" (defArgs s_m_Share_eq) (defBody s_m_Share_eq) (defScope s_m_Share_eq) .none kV_m_Share_eq dc_m_Share_eq pm_m_Share_eq an_m_Share_eq cd_m_Share_eq ct_m_Share_eq), sl_m_Share_eq⟩)
    (c_m_Share_eq_ : PySem.W.codeIn K cd_m_Share_eq "Share.__eq__" = true)
    (k_m_Share_eq_ : PySem.W.keepIn K (.ref f_m_Share_eq) = true)
    (a_m_Share_str : PySem.W.findIn K (.ref c_Share) "__str__" = some (some (.ref f_m_Share_str)))
    (l_m_Share_str : K.lookup f_m_Share_str = some ⟨oc_m_Share_str, od_m_Share_str, .func (PySem.W.fnOf "__str__" "Share.__str__" (defArgs s_m_Share_str) (defBody s_m_Share_str) (defScope s_m_Share_str) .none kV_m_Share_str dc_m_Share_str pm_m_Share_str an_m_Share_str cd_m_Share_str ct_m_Share_str), sl_m_Share_str⟩)
    (c_m_Share_str_ : PySem.W.codeIn K cd_m_Share_str "Share.__str__" = true)
    (k_m_Share_str_ : PySem.W.keepIn K (.ref f_m_Share_str) = true)
    (a_p_common_part : PySem.W.nsIn K mainGlobals "common_part" = some (some (.ref f_p_common_part)))
    (l_p_common_part : K.lookup f_p_common_part = some ⟨oc_p_common_part, od_p_common_part, .func (PySem.W.fnOf "common_part" "common_part" (defArgs s_p_common_part) (defBody s_p_common_part) (defScope s_p_common_part) .none kV_p_common_part dc_p_common_part pm_p_common_part an_p_common_part cd_p_common_part ct_p_common_part), sl_p_common_part⟩)
    (c_p_common_part_ : PySem.W.codeIn K cd_p_common_part "common_part" = true)
    (k_p_common_part_ : PySem.W.keepIn K (.ref f_p_common_part) = true)
    (a_p_common_multiple : PySem.W.nsIn K mainGlobals "common_multiple" = some (some (.ref f_p_common_multiple)))
    (l_p_common_multiple : K.lookup f_p_common_multiple = some ⟨oc_p_common_multiple, od_p_common_multiple, .func (PySem.W.fnOf "common_multiple" "common_multiple" (defArgs s_p_common_multiple) (defBody s_p_common_multiple) (defScope s_p_common_multiple) .none kV_p_common_multiple dc_p_common_multiple pm_p_common_multiple an_p_common_multiple cd_p_common_multiple ct_p_common_multiple), sl_p_common_multiple⟩)
    (c_p_common_multiple_ : PySem.W.codeIn K cd_p_common_multiple "common_multiple" = true)
    (k_p_common_multiple_ : PySem.W.keepIn K (.ref f_p_common_multiple) = true)
    (a_p_common_bottom : PySem.W.nsIn K mainGlobals "common_bottom" = some (some (.ref f_p_common_bottom)))
    (l_p_common_bottom : K.lookup f_p_common_bottom = some ⟨oc_p_common_bottom, od_p_common_bottom, .func (PySem.W.fnOf "common_bottom" "common_bottom" (defArgs s_p_common_bottom) (defBody s_p_common_bottom) (defScope s_p_common_bottom) .none kV_p_common_bottom dc_p_common_bottom pm_p_common_bottom an_p_common_bottom cd_p_common_bottom ct_p_common_bottom), sl_p_common_bottom⟩)
    (c_p_common_bottom_ : PySem.W.codeIn K cd_p_common_bottom "common_bottom" = true)
    (k_p_common_bottom_ : PySem.W.keepIn K (.ref f_p_common_bottom) = true)
    (a_p_tops_over : PySem.W.nsIn K mainGlobals "tops_over" = some (some (.ref f_p_tops_over)))
    (l_p_tops_over : K.lookup f_p_tops_over = some ⟨oc_p_tops_over, od_p_tops_over, .func (PySem.W.fnOf "tops_over" "tops_over" (defArgs s_p_tops_over) (defBody s_p_tops_over) (defScope s_p_tops_over) .none kV_p_tops_over dc_p_tops_over pm_p_tops_over an_p_tops_over cd_p_tops_over ct_p_tops_over), sl_p_tops_over⟩)
    (c_p_tops_over_ : PySem.W.codeIn K cd_p_tops_over "tops_over" = true)
    (k_p_tops_over_ : PySem.W.keepIn K (.ref f_p_tops_over) = true)
    (a_p_sum_of : PySem.W.nsIn K mainGlobals "sum_of" = some (some (.ref f_p_sum_of)))
    (l_p_sum_of : K.lookup f_p_sum_of = some ⟨oc_p_sum_of, od_p_sum_of, .func (PySem.W.fnOf "sum_of" "sum_of" (defArgs s_p_sum_of) (defBody s_p_sum_of) (defScope s_p_sum_of) .none kV_p_sum_of dc_p_sum_of pm_p_sum_of an_p_sum_of cd_p_sum_of ct_p_sum_of), sl_p_sum_of⟩)
    (c_p_sum_of_ : PySem.W.codeIn K cd_p_sum_of "sum_of" = true)
    (k_p_sum_of_ : PySem.W.keepIn K (.ref f_p_sum_of) = true)
    (a_m_Haul_init : PySem.W.findIn K (.ref c_Haul) "__init__" = some (some (.ref f_m_Haul_init)))
    (l_m_Haul_init : K.lookup f_m_Haul_init = some ⟨oc_m_Haul_init, od_m_Haul_init, .func (PySem.W.fnOf "__init__" "Haul.__init__" (defArgs s_m_Haul_init) (defBody s_m_Haul_init) (defScope s_m_Haul_init) .none kV_m_Haul_init dc_m_Haul_init pm_m_Haul_init an_m_Haul_init cd_m_Haul_init ct_m_Haul_init), sl_m_Haul_init⟩)
    (c_m_Haul_init_ : PySem.W.codeIn K cd_m_Haul_init "Haul.__init__" = true)
    (k_m_Haul_init_ : PySem.W.keepIn K (.ref f_m_Haul_init) = true)
    (a_m_Haul_cheapen : PySem.W.findIn K (.ref c_Haul) "cheapen" = some (some (.ref f_m_Haul_cheapen)))
    (l_m_Haul_cheapen : K.lookup f_m_Haul_cheapen = some ⟨oc_m_Haul_cheapen, od_m_Haul_cheapen, .func (PySem.W.fnOf "cheapen" "Haul.cheapen" (defArgs s_m_Haul_cheapen) (defBody s_m_Haul_cheapen) (defScope s_m_Haul_cheapen) .none kV_m_Haul_cheapen dc_m_Haul_cheapen pm_m_Haul_cheapen an_m_Haul_cheapen cd_m_Haul_cheapen ct_m_Haul_cheapen), sl_m_Haul_cheapen⟩)
    (c_m_Haul_cheapen_ : PySem.W.codeIn K cd_m_Haul_cheapen "Haul.cheapen" = true)
    (k_m_Haul_cheapen_ : PySem.W.keepIn K (.ref f_m_Haul_cheapen) = true)
    (a_m_Haul_paid : PySem.W.findIn K (.ref c_Haul) "paid" = some (some (.ref f_m_Haul_paid)))
    (l_m_Haul_paid : K.lookup f_m_Haul_paid = some ⟨oc_m_Haul_paid, od_m_Haul_paid, .func (PySem.W.fnOf "paid" "Haul.paid" (defArgs s_m_Haul_paid) (defBody s_m_Haul_paid) (defScope s_m_Haul_paid) .none kV_m_Haul_paid dc_m_Haul_paid pm_m_Haul_paid an_m_Haul_paid cd_m_Haul_paid ct_m_Haul_paid), sl_m_Haul_paid⟩)
    (c_m_Haul_paid_ : PySem.W.codeIn K cd_m_Haul_paid "Haul.paid" = true)
    (k_m_Haul_paid_ : PySem.W.keepIn K (.ref f_m_Haul_paid) = true)
    (a_m_Haul_plan : PySem.W.findIn K (.ref c_Haul) "plan" = some (some (.ref f_m_Haul_plan)))
    (l_m_Haul_plan : K.lookup f_m_Haul_plan = some ⟨oc_m_Haul_plan, od_m_Haul_plan, .func (PySem.W.fnOf "plan" "Haul.plan" (defArgs s_m_Haul_plan) (defBody s_m_Haul_plan) (defScope s_m_Haul_plan) .none kV_m_Haul_plan dc_m_Haul_plan pm_m_Haul_plan an_m_Haul_plan cd_m_Haul_plan ct_m_Haul_plan), sl_m_Haul_plan⟩)
    (c_m_Haul_plan_ : PySem.W.codeIn K cd_m_Haul_plan "Haul.plan" = true)
    (k_m_Haul_plan_ : PySem.W.keepIn K (.ref f_m_Haul_plan) = true)
    (a_m_Haul_prices : PySem.W.findIn K (.ref c_Haul) "prices" = some (some (.ref f_m_Haul_prices)))
    (l_m_Haul_prices : K.lookup f_m_Haul_prices = some ⟨oc_m_Haul_prices, od_m_Haul_prices, .func (PySem.W.fnOf "prices" "Haul.prices" (defArgs s_m_Haul_prices) (defBody s_m_Haul_prices) (defScope s_m_Haul_prices) .none kV_m_Haul_prices dc_m_Haul_prices pm_m_Haul_prices an_m_Haul_prices cd_m_Haul_prices ct_m_Haul_prices), sl_m_Haul_prices⟩)
    (c_m_Haul_prices_ : PySem.W.codeIn K cd_m_Haul_prices "Haul.prices" = true)
    (k_m_Haul_prices_ : PySem.W.keepIn K (.ref f_m_Haul_prices) = true)
    (a_p_in_parts : PySem.W.nsIn K mainGlobals "in_parts" = some (some (.ref f_p_in_parts)))
    (l_p_in_parts : K.lookup f_p_in_parts = some ⟨oc_p_in_parts, od_p_in_parts, .func (PySem.W.fnOf "in_parts" "in_parts" (defArgs s_p_in_parts) (defBody s_p_in_parts) (defScope s_p_in_parts) .none kV_p_in_parts dc_p_in_parts pm_p_in_parts an_p_in_parts cd_p_in_parts ct_p_in_parts), sl_p_in_parts⟩)
    (c_p_in_parts_ : PySem.W.codeIn K cd_p_in_parts "in_parts" = true)
    (k_p_in_parts_ : PySem.W.keepIn K (.ref f_p_in_parts) = true)
    (a_p_all_prices : PySem.W.nsIn K mainGlobals "all_prices" = some (some (.ref f_p_all_prices)))
    (l_p_all_prices : K.lookup f_p_all_prices = some ⟨oc_p_all_prices, od_p_all_prices, .func (PySem.W.fnOf "all_prices" "all_prices" (defArgs s_p_all_prices) (defBody s_p_all_prices) (defScope s_p_all_prices) .none kV_p_all_prices dc_p_all_prices pm_p_all_prices an_p_all_prices cd_p_all_prices ct_p_all_prices), sl_p_all_prices⟩)
    (c_p_all_prices_ : PySem.W.codeIn K cd_p_all_prices "all_prices" = true)
    (k_p_all_prices_ : PySem.W.keepIn K (.ref f_p_all_prices) = true)
    (a_p_first_tree : PySem.W.nsIn K mainGlobals "first_tree" = some (some (.ref f_p_first_tree)))
    (l_p_first_tree : K.lookup f_p_first_tree = some ⟨oc_p_first_tree, od_p_first_tree, .func (PySem.W.fnOf "first_tree" "first_tree" (defArgs s_p_first_tree) (defBody s_p_first_tree) (defScope s_p_first_tree) .none kV_p_first_tree dc_p_first_tree pm_p_first_tree an_p_first_tree cd_p_first_tree ct_p_first_tree), sl_p_first_tree⟩)
    (c_p_first_tree_ : PySem.W.codeIn K cd_p_first_tree "first_tree" = true)
    (k_p_first_tree_ : PySem.W.keepIn K (.ref f_p_first_tree) = true)
    (a_p_unit_for : PySem.W.nsIn K mainGlobals "unit_for" = some (some (.ref f_p_unit_for)))
    (l_p_unit_for : K.lookup f_p_unit_for = some ⟨oc_p_unit_for, od_p_unit_for, .func (PySem.W.fnOf "unit_for" "unit_for" (defArgs s_p_unit_for) (defBody s_p_unit_for) (defScope s_p_unit_for) .none kV_p_unit_for dc_p_unit_for pm_p_unit_for an_p_unit_for cd_p_unit_for ct_p_unit_for), sl_p_unit_for⟩)
    (c_p_unit_for_ : PySem.W.codeIn K cd_p_unit_for "unit_for" = true)
    (k_p_unit_for_ : PySem.W.keepIn K (.ref f_p_unit_for) = true)
    (a_p_rounded : PySem.W.nsIn K mainGlobals "rounded" = some (some (.ref f_p_rounded)))
    (l_p_rounded : K.lookup f_p_rounded = some ⟨oc_p_rounded, od_p_rounded, .func (PySem.W.fnOf "rounded" "rounded" (defArgs s_p_rounded) (defBody s_p_rounded) (defScope s_p_rounded) .none kV_p_rounded dc_p_rounded pm_p_rounded an_p_rounded cd_p_rounded ct_p_rounded), sl_p_rounded⟩)
    (c_p_rounded_ : PySem.W.codeIn K cd_p_rounded "rounded" = true)
    (k_p_rounded_ : PySem.W.keepIn K (.ref f_p_rounded) = true)
    (a_p_greedy_tree : PySem.W.nsIn K mainGlobals "greedy_tree" = some (some (.ref f_p_greedy_tree)))
    (l_p_greedy_tree : K.lookup f_p_greedy_tree = some ⟨oc_p_greedy_tree, od_p_greedy_tree, .func (PySem.W.fnOf "greedy_tree" "greedy_tree" (defArgs s_p_greedy_tree) (defBody s_p_greedy_tree) (defScope s_p_greedy_tree) .none kV_p_greedy_tree dc_p_greedy_tree pm_p_greedy_tree an_p_greedy_tree cd_p_greedy_tree ct_p_greedy_tree), sl_p_greedy_tree⟩)
    (c_p_greedy_tree_ : PySem.W.codeIn K cd_p_greedy_tree "greedy_tree" = true)
    (k_p_greedy_tree_ : PySem.W.keepIn K (.ref f_p_greedy_tree) = true)
    (a_p_hang : PySem.W.nsIn K mainGlobals "hang" = some (some (.ref f_p_hang)))
    (l_p_hang : K.lookup f_p_hang = some ⟨oc_p_hang, od_p_hang, .func (PySem.W.fnOf "hang" "hang" (defArgs s_p_hang) (defBody s_p_hang) (defScope s_p_hang) .none kV_p_hang dc_p_hang pm_p_hang an_p_hang cd_p_hang ct_p_hang), sl_p_hang⟩)
    (c_p_hang_ : PySem.W.codeIn K cd_p_hang "hang" = true)
    (k_p_hang_ : PySem.W.keepIn K (.ref f_p_hang) = true)
    (a_p_widest_gap : PySem.W.nsIn K mainGlobals "widest_gap" = some (some (.ref f_p_widest_gap)))
    (l_p_widest_gap : K.lookup f_p_widest_gap = some ⟨oc_p_widest_gap, od_p_widest_gap, .func (PySem.W.fnOf "widest_gap" "widest_gap" (defArgs s_p_widest_gap) (defBody s_p_widest_gap) (defScope s_p_widest_gap) .none kV_p_widest_gap dc_p_widest_gap pm_p_widest_gap an_p_widest_gap cd_p_widest_gap ct_p_widest_gap), sl_p_widest_gap⟩)
    (c_p_widest_gap_ : PySem.W.codeIn K cd_p_widest_gap "widest_gap" = true)
    (k_p_widest_gap_ : PySem.W.keepIn K (.ref f_p_widest_gap) = true)
    (a_p_exchange : PySem.W.nsIn K mainGlobals "exchange" = some (some (.ref f_p_exchange)))
    (l_p_exchange : K.lookup f_p_exchange = some ⟨oc_p_exchange, od_p_exchange, .func (PySem.W.fnOf "exchange" "exchange" (defArgs s_p_exchange) (defBody s_p_exchange) (defScope s_p_exchange) .none kV_p_exchange dc_p_exchange pm_p_exchange an_p_exchange cd_p_exchange ct_p_exchange), sl_p_exchange⟩)
    (c_p_exchange_ : PySem.W.codeIn K cd_p_exchange "exchange" = true)
    (k_p_exchange_ : PySem.W.keepIn K (.ref f_p_exchange) = true)
    (a_p_are_shares : PySem.W.nsIn K mainGlobals "are_shares" = some (some (.ref f_p_are_shares)))
    (l_p_are_shares : K.lookup f_p_are_shares = some ⟨oc_p_are_shares, od_p_are_shares, .func (PySem.W.fnOf "are_shares" "are_shares" (defArgs s_p_are_shares) (defBody s_p_are_shares) (defScope s_p_are_shares) .none kV_p_are_shares dc_p_are_shares pm_p_are_shares an_p_are_shares cd_p_are_shares ct_p_are_shares), sl_p_are_shares⟩)
    (c_p_are_shares_ : PySem.W.codeIn K cd_p_are_shares "are_shares" = true)
    (k_p_are_shares_ : PySem.W.keepIn K (.ref f_p_are_shares) = true)
    (a_p_are_amounts : PySem.W.nsIn K mainGlobals "are_amounts" = some (some (.ref f_p_are_amounts)))
    (l_p_are_amounts : K.lookup f_p_are_amounts = some ⟨oc_p_are_amounts, od_p_are_amounts, .func (PySem.W.fnOf "are_amounts" "are_amounts" (defArgs s_p_are_amounts) (defBody s_p_are_amounts) (defScope s_p_are_amounts) .none kV_p_are_amounts dc_p_are_amounts pm_p_are_amounts an_p_are_amounts cd_p_are_amounts ct_p_are_amounts), sl_p_are_amounts⟩)
    (c_p_are_amounts_ : PySem.W.codeIn K cd_p_are_amounts "are_amounts" = true)
    (k_p_are_amounts_ : PySem.W.keepIn K (.ref f_p_are_amounts) = true)
    (a_p_is_table : PySem.W.nsIn K mainGlobals "is_table" = some (some (.ref f_p_is_table)))
    (l_p_is_table : K.lookup f_p_is_table = some ⟨oc_p_is_table, od_p_is_table, .func (PySem.W.fnOf "is_table" "is_table" (defArgs s_p_is_table) (defBody s_p_is_table) (defScope s_p_is_table) .none kV_p_is_table dc_p_is_table pm_p_is_table an_p_is_table cd_p_is_table ct_p_is_table), sl_p_is_table⟩)
    (c_p_is_table_ : PySem.W.codeIn K cd_p_is_table "is_table" = true)
    (k_p_is_table_ : PySem.W.keepIn K (.ref f_p_is_table) = true)
    (a_p_is_heap : PySem.W.nsIn K mainGlobals "is_heap" = some (some (.ref f_p_is_heap)))
    (l_p_is_heap : K.lookup f_p_is_heap = some ⟨oc_p_is_heap, od_p_is_heap, .func (PySem.W.fnOf "is_heap" "is_heap" (defArgs s_p_is_heap) (defBody s_p_is_heap) (defScope s_p_is_heap) .none kV_p_is_heap dc_p_is_heap pm_p_is_heap an_p_is_heap cd_p_is_heap ct_p_is_heap), sl_p_is_heap⟩)
    (c_p_is_heap_ : PySem.W.codeIn K cd_p_is_heap "is_heap" = true)
    (k_p_is_heap_ : PySem.W.keepIn K (.ref f_p_is_heap) = true)
    (a_p_joined : PySem.W.nsIn K mainGlobals "joined" = some (some (.ref f_p_joined)))
    (l_p_joined : K.lookup f_p_joined = some ⟨oc_p_joined, od_p_joined, .func (PySem.W.fnOf "joined" "joined" (defArgs s_p_joined) (defBody s_p_joined) (defScope s_p_joined) .none kV_p_joined dc_p_joined pm_p_joined an_p_joined cd_p_joined ct_p_joined), sl_p_joined⟩)
    (c_p_joined_ : PySem.W.codeIn K cd_p_joined "joined" = true)
    (k_p_joined_ : PySem.W.keepIn K (.ref f_p_joined) = true)
    (a_p_weighed : PySem.W.nsIn K mainGlobals "weighed" = some (some (.ref f_p_weighed)))
    (l_p_weighed : K.lookup f_p_weighed = some ⟨oc_p_weighed, od_p_weighed, .func (PySem.W.fnOf "weighed" "weighed" (defArgs s_p_weighed) (defBody s_p_weighed) (defScope s_p_weighed) .none kV_p_weighed dc_p_weighed pm_p_weighed an_p_weighed cd_p_weighed ct_p_weighed), sl_p_weighed⟩)
    (c_p_weighed_ : PySem.W.codeIn K cd_p_weighed "weighed" = true)
    (k_p_weighed_ : PySem.W.keepIn K (.ref f_p_weighed) = true)
    (a_p_cost_of : PySem.W.nsIn K mainGlobals "cost_of" = some (some (.ref f_p_cost_of)))
    (l_p_cost_of : K.lookup f_p_cost_of = some ⟨oc_p_cost_of, od_p_cost_of, .func (PySem.W.fnOf "cost_of" "cost_of" (defArgs s_p_cost_of) (defBody s_p_cost_of) (defScope s_p_cost_of) .none kV_p_cost_of dc_p_cost_of pm_p_cost_of an_p_cost_of cd_p_cost_of ct_p_cost_of), sl_p_cost_of⟩)
    (c_p_cost_of_ : PySem.W.codeIn K cd_p_cost_of "cost_of" = true)
    (k_p_cost_of_ : PySem.W.keepIn K (.ref f_p_cost_of) = true)
    (a_p_cheapest : PySem.W.nsIn K mainGlobals "cheapest" = some (some (.ref f_p_cheapest)))
    (l_p_cheapest : K.lookup f_p_cheapest = some ⟨oc_p_cheapest, od_p_cheapest, .func (PySem.W.fnOf "cheapest" "cheapest" (defArgs s_p_cheapest) (defBody s_p_cheapest) (defScope s_p_cheapest) .none kV_p_cheapest dc_p_cheapest pm_p_cheapest an_p_cheapest cd_p_cheapest ct_p_cheapest), sl_p_cheapest⟩)
    (c_p_cheapest_ : PySem.W.codeIn K cd_p_cheapest "cheapest" = true)
    (k_p_cheapest_ : PySem.W.keepIn K (.ref f_p_cheapest) = true)
    (a_p_shares_over : PySem.W.nsIn K mainGlobals "shares_over" = some (some (.ref f_p_shares_over)))
    (l_p_shares_over : K.lookup f_p_shares_over = some ⟨oc_p_shares_over, od_p_shares_over, .func (PySem.W.fnOf "shares_over" "shares_over" (defArgs s_p_shares_over) (defBody s_p_shares_over) (defScope s_p_shares_over) .none kV_p_shares_over dc_p_shares_over pm_p_shares_over an_p_shares_over cd_p_shares_over ct_p_shares_over), sl_p_shares_over⟩)
    (c_p_shares_over_ : PySem.W.codeIn K cd_p_shares_over "shares_over" = true)
    (k_p_shares_over_ : PySem.W.keepIn K (.ref f_p_shares_over) = true)
    (a_l_well : PySem.W.nsIn K mainGlobals "_law_well" = some (some (.ref f_l_well)))
    (l_l_well : K.lookup f_l_well = some ⟨oc_l_well, od_l_well, .func (PySem.W.fnOf "_law_well" "_law_well" (defArgs s_l_well) (defBody s_l_well) (defScope s_l_well) .none kV_l_well dc_l_well pm_l_well an_l_well cd_l_well ct_l_well), sl_l_well⟩)
    (c_l_well_ : PySem.W.codeIn K cd_l_well "_law_well" = true)
    (k_l_well_ : PySem.W.keepIn K (.ref f_l_well) = true)
    (a_l_draw : PySem.W.nsIn K mainGlobals "_law_draw" = some (some (.ref f_l_draw)))
    (l_l_draw : K.lookup f_l_draw = some ⟨oc_l_draw, od_l_draw, .func (PySem.W.fnOf "_law_draw" "_law_draw" (defArgs s_l_draw) (defBody s_l_draw) (defScope s_l_draw) .none kV_l_draw dc_l_draw pm_l_draw an_l_draw cd_l_draw ct_l_draw), sl_l_draw⟩)
    (c_l_draw_ : PySem.W.codeIn K cd_l_draw "_law_draw" = true)
    (k_l_draw_ : PySem.W.keepIn K (.ref f_l_draw) = true)
    (a_l_one : PySem.W.nsIn K mainGlobals "_law_one" = some (some (.ref f_l_one)))
    (l_l_one : K.lookup f_l_one = some ⟨oc_l_one, od_l_one, .func (PySem.W.fnOf "_law_one" "_law_one" (defArgs s_l_one) (defBody s_l_one) (defScope s_l_one) .none kV_l_one dc_l_one pm_l_one an_l_one cd_l_one ct_l_one), sl_l_one⟩)
    (c_l_one_ : PySem.W.codeIn K cd_l_one "_law_one" = true)
    (k_l_one_ : PySem.W.keepIn K (.ref f_l_one) = true)
    (a_l_low : PySem.W.nsIn K mainGlobals "_law_low" = some (some (.ref f_l_low)))
    (l_l_low : K.lookup f_l_low = some ⟨oc_l_low, od_l_low, .func (PySem.W.fnOf "_law_low" "_law_low" (defArgs s_l_low) (defBody s_l_low) (defScope s_l_low) .none kV_l_low dc_l_low pm_l_low an_l_low cd_l_low ct_l_low), sl_l_low⟩)
    (c_l_low_ : PySem.W.codeIn K cd_l_low "_law_low" = true)
    (k_l_low_ : PySem.W.keepIn K (.ref f_l_low) = true)
    (a_l_pair : PySem.W.nsIn K mainGlobals "_law_pair" = some (some (.ref f_l_pair)))
    (l_l_pair : K.lookup f_l_pair = some ⟨oc_l_pair, od_l_pair, .func (PySem.W.fnOf "_law_pair" "_law_pair" (defArgs s_l_pair) (defBody s_l_pair) (defScope s_l_pair) .none kV_l_pair dc_l_pair pm_l_pair an_l_pair cd_l_pair ct_l_pair), sl_l_pair⟩)
    (c_l_pair_ : PySem.W.codeIn K cd_l_pair "_law_pair" = true)
    (k_l_pair_ : PySem.W.keepIn K (.ref f_l_pair) = true)
    (a_l_heap : PySem.W.nsIn K mainGlobals "_law_heap" = some (some (.ref f_l_heap)))
    (l_l_heap : K.lookup f_l_heap = some ⟨oc_l_heap, od_l_heap, .func (PySem.W.fnOf "_law_heap" "_law_heap" (defArgs s_l_heap) (defBody s_l_heap) (defScope s_l_heap) .none kV_l_heap dc_l_heap pm_l_heap an_l_heap cd_l_heap ct_l_heap), sl_l_heap⟩)
    (c_l_heap_ : PySem.W.codeIn K cd_l_heap "_law_heap" = true)
    (k_l_heap_ : PySem.W.keepIn K (.ref f_l_heap) = true)
    (a_l_costs : PySem.W.nsIn K mainGlobals "_law_costs" = some (some (.ref f_l_costs)))
    (l_l_costs : K.lookup f_l_costs = some ⟨oc_l_costs, od_l_costs, .func (PySem.W.fnOf "_law_costs" "_law_costs" (defArgs s_l_costs) (defBody s_l_costs) (defScope s_l_costs) .none kV_l_costs dc_l_costs pm_l_costs an_l_costs cd_l_costs ct_l_costs), sl_l_costs⟩)
    (c_l_costs_ : PySem.W.codeIn K cd_l_costs "_law_costs" = true)
    (k_l_costs_ : PySem.W.keepIn K (.ref f_l_costs) = true)
    (a_l_shares : PySem.W.nsIn K mainGlobals "_law_shares" = some (some (.ref f_l_shares)))
    (l_l_shares : K.lookup f_l_shares = some ⟨oc_l_shares, od_l_shares, .func (PySem.W.fnOf "_law_shares" "_law_shares" (defArgs s_l_shares) (defBody s_l_shares) (defScope s_l_shares) .none kV_l_shares dc_l_shares pm_l_shares an_l_shares cd_l_shares ct_l_shares), sl_l_shares⟩)
    (c_l_shares_ : PySem.W.codeIn K cd_l_shares "_law_shares" = true)
    (k_l_shares_ : PySem.W.keepIn K (.ref f_l_shares) = true)
    (a_l_rows : PySem.W.nsIn K mainGlobals "_law_rows" = some (some (.ref f_l_rows)))
    (l_l_rows : K.lookup f_l_rows = some ⟨oc_l_rows, od_l_rows, .func (PySem.W.fnOf "_law_rows" "_law_rows" (defArgs s_l_rows) (defBody s_l_rows) (defScope s_l_rows) .none kV_l_rows dc_l_rows pm_l_rows an_l_rows cd_l_rows ct_l_rows), sl_l_rows⟩)
    (c_l_rows_ : PySem.W.codeIn K cd_l_rows "_law_rows" = true)
    (k_l_rows_ : PySem.W.keepIn K (.ref f_l_rows) = true)
    (a_l_added : PySem.W.nsIn K mainGlobals "_law_added" = some (some (.ref f_l_added)))
    (l_l_added : K.lookup f_l_added = some ⟨oc_l_added, od_l_added, .func (PySem.W.fnOf "_law_added" "_law_added" (defArgs s_l_added) (defBody s_l_added) (defScope s_l_added) .none kV_l_added dc_l_added pm_l_added an_l_added cd_l_added ct_l_added), sl_l_added⟩)
    (c_l_added_ : PySem.W.codeIn K cd_l_added "_law_added" = true)
    (k_l_added_ : PySem.W.keepIn K (.ref f_l_added) = true)
    (a_l_total : PySem.W.nsIn K mainGlobals "_law_total" = some (some (.ref f_l_total)))
    (l_l_total : K.lookup f_l_total = some ⟨oc_l_total, od_l_total, .func (PySem.W.fnOf "_law_total" "_law_total" (defArgs s_l_total) (defBody s_l_total) (defScope s_l_total) .none kV_l_total dc_l_total pm_l_total an_l_total cd_l_total ct_l_total), sl_l_total⟩)
    (c_l_total_ : PySem.W.codeIn K cd_l_total "_law_total" = true)
    (k_l_total_ : PySem.W.keepIn K (.ref f_l_total) = true)
    (a_l_by : PySem.W.nsIn K mainGlobals "_law_by" = some (some (.ref f_l_by)))
    (l_l_by : K.lookup f_l_by = some ⟨oc_l_by, od_l_by, .func (PySem.W.fnOf "_law_by" "_law_by" (defArgs s_l_by) (defBody s_l_by) (defScope s_l_by) .none kV_l_by dc_l_by pm_l_by an_l_by cd_l_by ct_l_by), sl_l_by⟩)
    (c_l_by_ : PySem.W.codeIn K cd_l_by "_law_by" = true)
    (k_l_by_ : PySem.W.keepIn K (.ref f_l_by) = true)
    (a_l_below : PySem.W.nsIn K mainGlobals "_law_below" = some (some (.ref f_l_below)))
    (l_l_below : K.lookup f_l_below = some ⟨oc_l_below, od_l_below, .func (PySem.W.fnOf "_law_below" "_law_below" (defArgs s_l_below) (defBody s_l_below) (defScope s_l_below) .none kV_l_below dc_l_below pm_l_below an_l_below cd_l_below ct_l_below), sl_l_below⟩)
    (c_l_below_ : PySem.W.codeIn K cd_l_below "_law_below" = true)
    (k_l_below_ : PySem.W.keepIn K (.ref f_l_below) = true)
    (a_l_filled : PySem.W.nsIn K mainGlobals "_law_filled" = some (some (.ref f_l_filled)))
    (l_l_filled : K.lookup f_l_filled = some ⟨oc_l_filled, od_l_filled, .func (PySem.W.fnOf "_law_filled" "_law_filled" (defArgs s_l_filled) (defBody s_l_filled) (defScope s_l_filled) .none kV_l_filled dc_l_filled pm_l_filled an_l_filled cd_l_filled ct_l_filled), sl_l_filled⟩)
    (c_l_filled_ : PySem.W.codeIn K cd_l_filled "_law_filled" = true)
    (k_l_filled_ : PySem.W.keepIn K (.ref f_l_filled) = true)
    (a_l_cost : PySem.W.nsIn K mainGlobals "_law_cost" = some (some (.ref f_l_cost)))
    (l_l_cost : K.lookup f_l_cost = some ⟨oc_l_cost, od_l_cost, .func (PySem.W.fnOf "_law_cost" "_law_cost" (defArgs s_l_cost) (defBody s_l_cost) (defScope s_l_cost) .none kV_l_cost dc_l_cost pm_l_cost an_l_cost cd_l_cost ct_l_cost), sl_l_cost⟩)
    (c_l_cost_ : PySem.W.codeIn K cd_l_cost "_law_cost" = true)
    (k_l_cost_ : PySem.W.keepIn K (.ref f_l_cost) = true)
    (a_l_less : PySem.W.nsIn K mainGlobals "_law_less" = some (some (.ref f_l_less)))
    (l_l_less : K.lookup f_l_less = some ⟨oc_l_less, od_l_less, .func (PySem.W.fnOf "_law_less" "_law_less" (defArgs s_l_less) (defBody s_l_less) (defScope s_l_less) .none kV_l_less dc_l_less pm_l_less an_l_less cd_l_less ct_l_less), sl_l_less⟩)
    (c_l_less_ : PySem.W.codeIn K cd_l_less "_law_less" = true)
    (k_l_less_ : PySem.W.keepIn K (.ref f_l_less) = true)
    (a_l_top_prices : PySem.W.nsIn K mainGlobals "_law_top_prices" = some (some (.ref f_l_top_prices)))
    (l_l_top_prices : K.lookup f_l_top_prices = some ⟨oc_l_top_prices, od_l_top_prices, .func (PySem.W.fnOf "_law_top_prices" "_law_top_prices" (defArgs s_l_top_prices) (defBody s_l_top_prices) (defScope s_l_top_prices) .none kV_l_top_prices dc_l_top_prices pm_l_top_prices an_l_top_prices cd_l_top_prices ct_l_top_prices), sl_l_top_prices⟩)
    (c_l_top_prices_ : PySem.W.codeIn K cd_l_top_prices "_law_top_prices" = true)
    (k_l_top_prices_ : PySem.W.keepIn K (.ref f_l_top_prices) = true)
    (a_l_brought : PySem.W.nsIn K mainGlobals "_law_brought" = some (some (.ref f_l_brought)))
    (l_l_brought : K.lookup f_l_brought = some ⟨oc_l_brought, od_l_brought, .func (PySem.W.fnOf "_law_brought" "_law_brought" (defArgs s_l_brought) (defBody s_l_brought) (defScope s_l_brought) .none kV_l_brought dc_l_brought pm_l_brought an_l_brought cd_l_brought ct_l_brought), sl_l_brought⟩)
    (c_l_brought_ : PySem.W.codeIn K cd_l_brought "_law_brought" = true)
    (k_l_brought_ : PySem.W.keepIn K (.ref f_l_brought) = true)
    (a_l_mixed : PySem.W.nsIn K mainGlobals "_law_mixed" = some (some (.ref f_l_mixed)))
    (l_l_mixed : K.lookup f_l_mixed = some ⟨oc_l_mixed, od_l_mixed, .func (PySem.W.fnOf "_law_mixed" "_law_mixed" (defArgs s_l_mixed) (defBody s_l_mixed) (defScope s_l_mixed) .none kV_l_mixed dc_l_mixed pm_l_mixed an_l_mixed cd_l_mixed ct_l_mixed), sl_l_mixed⟩)
    (c_l_mixed_ : PySem.W.codeIn K cd_l_mixed "_law_mixed" = true)
    (k_l_mixed_ : PySem.W.keepIn K (.ref f_l_mixed) = true)
    (a_l_tight : PySem.W.nsIn K mainGlobals "_law_tight" = some (some (.ref f_l_tight)))
    (l_l_tight : K.lookup f_l_tight = some ⟨oc_l_tight, od_l_tight, .func (PySem.W.fnOf "_law_tight" "_law_tight" (defArgs s_l_tight) (defBody s_l_tight) (defScope s_l_tight) .none kV_l_tight dc_l_tight pm_l_tight an_l_tight cd_l_tight ct_l_tight), sl_l_tight⟩)
    (c_l_tight_ : PySem.W.codeIn K cd_l_tight "_law_tight" = true)
    (k_l_tight_ : PySem.W.keepIn K (.ref f_l_tight) = true)
    (a_law : PySem.W.nsIn K mainGlobals "law" = some (some (.ref f_law)))
    (l_law : K.lookup f_law = some ⟨oc_law, od_law, .func (PySem.W.fnOf "law" "law" (defArgs s_law) (defBody s_law) (defScope s_law) .none kV_law dc_law pm_law an_law cd_law ct_law), sl_law⟩)
    (c_law_ : PySem.W.codeIn K cd_law "law" = true)
    (k_law_ : PySem.W.keepIn K (.ref f_law) = true)
    (pg_Share : PySem.W.plainGet K c_Share Str.empty = true)
    (hd_Share : PySem.W.hasDictIn K c_Share = true)
    (po_Share : PySem.W.plainOver K c_Share = true)
    (sa_Share : PySem.W.findIn K (.ref c_Share) "__setattr__" = some (some (.builtin "object.__setattr__")))
    (mk_Share : PySem.W.makesIn K c_Share = true)
    (kc_Share : PySem.W.keepIn K (.ref c_Share) = true)
    (if_Share : PySem.W.isFn K (.ref f_m_Share_init) = true)
    (ha_Share : PySem.W.findIn K (.ref c_Share) "__class__" = some (some (.builtin "object.__class__")))
    (hn_Share : PySem.W.specialIn K (.builtin "object.__class__") "__get__" = some (some (.builtin "getset_descriptor.__get__")))
    (ht_Share : PySem.W.takesIn K (.builtin "object.__class__") = some true)
    (hm_Share : PySem.W.mroIn K c_Share (.type "object") = some true)
    (n_Share_top : PySem.W.findIn K (.ref c_Share) "top" = some none)
    (n_Share_bottom : PySem.W.findIn K (.ref c_Share) "bottom" = some none)
    (i_m_Share_eq : PySem.W.isFn K (.ref f_m_Share_eq) = true)
    (i_m_Share_str : PySem.W.isFn K (.ref f_m_Share_str) = true)
    (nn_Share : PySem.W.findIn K (.ref c_Share) "__ne__" = some (some (.builtin "object.__ne__")))
    (nf_Share_int : PySem.W.notFirst K c_Share (.type "int") = true)
    (nf_Share_str : PySem.W.notFirst K c_Share (.type "str") = true)
    (nf_Share_NoneType : PySem.W.notFirst K c_Share (.type "NoneType") = true)
    (nf_Share_list : PySem.W.notFirst K c_Share (.type "list") = true)
    (nf_Share_tuple : PySem.W.notFirst K c_Share (.type "tuple") = true)
    (nf_Share_dict : PySem.W.notFirst K c_Share (.type "dict") = true)
    (nf_Share_bool : PySem.W.notFirst K c_Share (.type "bool") = true)
    (ko_Share : PySem.W.kitOne K (.ref c_Share) (.ref c_Share) = some true)
    (ko_Share_int : PySem.W.kitOne K (.type "int") (.ref c_Share) = some false)
    (ko_Share_str : PySem.W.kitOne K (.type "str") (.ref c_Share) = some false)
    (ko_Share_NoneType : PySem.W.kitOne K (.type "NoneType") (.ref c_Share) = some false)
    (ko_Share_list : PySem.W.kitOne K (.type "list") (.ref c_Share) = some false)
    (ko_Share_tuple : PySem.W.kitOne K (.type "tuple") (.ref c_Share) = some false)
    (ko_Share_dict : PySem.W.kitOne K (.type "dict") (.ref c_Share) = some false)
    (ko_Share_bool : PySem.W.kitOne K (.type "bool") (.ref c_Share) = some false)
    (pg_Haul : PySem.W.plainGet K c_Haul Str.empty = true)
    (hd_Haul : PySem.W.hasDictIn K c_Haul = true)
    (po_Haul : PySem.W.plainOver K c_Haul = true)
    (sa_Haul : PySem.W.findIn K (.ref c_Haul) "__setattr__" = some (some (.builtin "object.__setattr__")))
    (mk_Haul : PySem.W.makesIn K c_Haul = true)
    (kc_Haul : PySem.W.keepIn K (.ref c_Haul) = true)
    (if_Haul : PySem.W.isFn K (.ref f_m_Haul_init) = true)
    (ha_Haul : PySem.W.findIn K (.ref c_Haul) "__class__" = some (some (.builtin "object.__class__")))
    (hn_Haul : PySem.W.specialIn K (.builtin "object.__class__") "__get__" = some (some (.builtin "getset_descriptor.__get__")))
    (ht_Haul : PySem.W.takesIn K (.builtin "object.__class__") = some true)
    (hm_Haul : PySem.W.mroIn K c_Haul (.type "object") = some true)
    (n_Haul_grain : PySem.W.findIn K (.ref c_Haul) "grain" = some none)
    (n_Haul_tree : PySem.W.findIn K (.ref c_Haul) "tree" = some none)
    (n_Haul_moves : PySem.W.findIn K (.ref c_Haul) "moves" = some none)
    (i_m_Haul_cheapen : PySem.W.isFn K (.ref f_m_Haul_cheapen) = true)
    (i_m_Haul_paid : PySem.W.isFn K (.ref f_m_Haul_paid) = true)
    (i_m_Haul_plan : PySem.W.isFn K (.ref f_m_Haul_plan) = true)
    (i_m_Haul_prices : PySem.W.isFn K (.ref f_m_Haul_prices) = true)
    (ko_Haul : PySem.W.kitOne K (.ref c_Haul) (.ref c_Haul) = some true)
    (ko_Haul_int : PySem.W.kitOne K (.type "int") (.ref c_Haul) = some false)
    (ko_Haul_str : PySem.W.kitOne K (.type "str") (.ref c_Haul) = some false)
    (ko_Haul_NoneType : PySem.W.kitOne K (.type "NoneType") (.ref c_Haul) = some false)
    (ko_Haul_list : PySem.W.kitOne K (.type "list") (.ref c_Haul) = some false)
    (ko_Haul_tuple : PySem.W.kitOne K (.type "tuple") (.ref c_Haul) = some false)
    (ko_Haul_dict : PySem.W.kitOne K (.type "dict") (.ref c_Haul) = some false)
    (ko_Haul_bool : PySem.W.kitOne K (.type "bool") (.ref c_Haul) = some false)
    (ac_PIECE_LENGTH : PySem.W.nsIn K mainGlobals "PIECE_LENGTH" = some (some (Value.int 64 tkc_PIECE_LENGTH)))
    (ac_MOST_PLACES : PySem.W.nsIn K mainGlobals "MOST_PLACES" = some (some (Value.int 12 tkc_MOST_PLACES)))
    (zz_divmod : PySem.W.nsIn K mainGlobals "divmod" = some none)
    (zz_str : PySem.W.nsIn K mainGlobals "str" = some none)
    (zz_isinstance : PySem.W.nsIn K mainGlobals "isinstance" = some none)
    (zz_int : PySem.W.nsIn K mainGlobals "int" = some none)
    (zz_bool : PySem.W.nsIn K mainGlobals "bool" = some none)
    (zz_abs : PySem.W.nsIn K mainGlobals "abs" = some none)
    (zz_sum : PySem.W.nsIn K mainGlobals "sum" = some none)
    (zz_range : PySem.W.nsIn K mainGlobals "range" = some none)
    (zz_enumerate : PySem.W.nsIn K mainGlobals "enumerate" = some none)
    (zz_max : PySem.W.nsIn K mainGlobals "max" = some none)
    (zz_min : PySem.W.nsIn K mainGlobals "min" = some none)
    (zz_len : PySem.W.nsIn K mainGlobals "len" = some none)
    (zz_zip : PySem.W.nsIn K mainGlobals "zip" = some none)
    (zz_list : PySem.W.nsIn K mainGlobals "list" = some none)
    (zz_dict : PySem.W.nsIn K mainGlobals "dict" = some none)
    (zz_sorted : PySem.W.nsIn K mainGlobals "sorted" = some none)
    (zz_all : PySem.W.nsIn K mainGlobals "all" = some none)
    (fact_kit_Share_list : PySem.W.kitOne K (.ref c_Share) (.type "list") = some false)
    (fact_kit_Share_tuple : PySem.W.kitOne K (.ref c_Share) (.type "tuple") = some false)
    : ∃ fd : FuncData, (∀ (s : Shared) (v : Value), BindsTo s fd ⟨[v], []⟩ [("_law_script", v)]) ∧ ∀ base : Heap, K.In base → base.Ns mainGlobals mg → FnOk l.prog w K mg base CX0 14 fa fd ["_law_script"] (spLaw K) := by
  have e := hfa.symm.trans (PySem.W.mg_of X G a_law)
  cases e
  have F_p__wall := fun_mk (st := s_p__wall) l_p__wall c_p__wall_ k_p__wall_
  have b_p__wall := F_p__wall.binds (ps := ["k"]) fun _ _ _ _ _ _ us hl => match us, hl with | [_], _ => rfl
  have F_p_written := fun_mk (st := s_p_written) l_p_written c_p_written_ k_p_written_
  have b_p_written := F_p_written.binds (ps := ["number"]) fun _ _ _ _ _ _ us hl => match us, hl with | [_], _ => rfl
  have F_p_is_whole := fun_mk (st := s_p_is_whole) l_p_is_whole c_p_is_whole_ k_p_is_whole_
  have b_p_is_whole := F_p_is_whole.binds (ps := ["thing"]) fun _ _ _ _ _ _ us hl => match us, hl with | [_], _ => rfl
  have F_m_Share_init : FunD K "__init__" "Share.__init__" (defArgs s_m_Share_init) (defBody s_m_Share_init) (defScope s_m_Share_init) [.int 1] [] f_m_Share_init (PySem.W.fnOf "__init__" "Share.__init__" (defArgs s_m_Share_init) (defBody s_m_Share_init) (defScope s_m_Share_init) (.ref t_m_Share_init) kV_m_Share_init dc_m_Share_init pm_m_Share_init an_m_Share_init cd_m_Share_init ct_m_Share_init) := ⟨⟨_, _, _, _, _, _, _, _, _, _, rfl, l_m_Share_init, c_m_Share_init_, .inr ⟨by simp, t_m_Share_init, _, _, _, rfl, lt_m_Share_init, rfl, (.cons ⟨_, rfl⟩ .nil)⟩, .inl rfl⟩, k_m_Share_init_⟩
  have b_m_Share_init : Binds K (PySem.W.fnOf "__init__" "Share.__init__" (defArgs s_m_Share_init) (defBody s_m_Share_init) (defScope s_m_Share_init) (.ref t_m_Share_init) kV_m_Share_init dc_m_Share_init pm_m_Share_init an_m_Share_init cd_m_Share_init ct_m_Share_init) ["self", "top", "bottom"] [] := by
    obtain ⟨ds, v0, b0⟩ := F_m_Share_init.binds1 (ps := ["self", "top", "bottom"]) 3 1 (by simp) rfl fun _ _ _ _ _ _ _ us its h1 h2 => match us, its, h1, h2 with | [_, _, _], [_], _, _ => ⟨_, rfl, rfl⟩
    cases v0
    exact b0
  have e_m_Share_init : ∃ ds, Vals [.int 1] ds ∧ Binds K (PySem.W.fnOf "__init__" "Share.__init__" (defArgs s_m_Share_init) (defBody s_m_Share_init) (defScope s_m_Share_init) (.ref t_m_Share_init) kV_m_Share_init dc_m_Share_init pm_m_Share_init an_m_Share_init cd_m_Share_init ct_m_Share_init) ["self", "top", "bottom"] ds := F_m_Share_init.binds1 2 0 (by simp) rfl fun _ _ _ _ _ _ _ us its h1 h2 => match us, its, h1, h2 with | [_, _], [_], _, _ => ⟨_, rfl, rfl⟩
  have F_m_Share_eq := fun_mk (st := s_m_Share_eq) l_m_Share_eq c_m_Share_eq_ k_m_Share_eq_
  have b_m_Share_eq := F_m_Share_eq.binds (ps := ["self", "other"]) fun _ _ _ _ _ _ us hl => match us, hl with | [_, _], _ => rfl
  have F_m_Share_str := fun_mk (st := s_m_Share_str) l_m_Share_str c_m_Share_str_ k_m_Share_str_
  have b_m_Share_str := F_m_Share_str.binds (ps := ["self"]) fun _ _ _ _ _ _ us hl => match us, hl with | [_], _ => rfl
  have F_p_common_part := fun_mk (st := s_p_common_part) l_p_common_part c_p_common_part_ k_p_common_part_
  have b_p_common_part := F_p_common_part.binds (ps := ["one", "other"]) fun _ _ _ _ _ _ us hl => match us, hl with | [_, _], _ => rfl
  have F_p_common_multiple := fun_mk (st := s_p_common_multiple) l_p_common_multiple c_p_common_multiple_ k_p_common_multiple_
  have b_p_common_multiple := F_p_common_multiple.binds (ps := ["one", "other"]) fun _ _ _ _ _ _ us hl => match us, hl with | [_, _], _ => rfl
  have F_p_common_bottom := fun_mk (st := s_p_common_bottom) l_p_common_bottom c_p_common_bottom_ k_p_common_bottom_
  have b_p_common_bottom := F_p_common_bottom.binds (ps := ["shares"]) fun _ _ _ _ _ _ us hl => match us, hl with | [_], _ => rfl
  have F_p_tops_over := fun_mk (st := s_p_tops_over) l_p_tops_over c_p_tops_over_ k_p_tops_over_
  have b_p_tops_over := F_p_tops_over.binds (ps := ["bottom", "shares"]) fun _ _ _ _ _ _ us hl => match us, hl with | [_, _], _ => rfl
  have F_p_sum_of := fun_mk (st := s_p_sum_of) l_p_sum_of c_p_sum_of_ k_p_sum_of_
  have b_p_sum_of := F_p_sum_of.binds (ps := ["shares"]) fun _ _ _ _ _ _ us hl => match us, hl with | [_], _ => rfl
  have F_m_Haul_init := fun_mk (st := s_m_Haul_init) l_m_Haul_init c_m_Haul_init_ k_m_Haul_init_
  have b_m_Haul_init := F_m_Haul_init.binds (ps := ["self", "costs", "first", "second"]) fun _ _ _ _ _ _ us hl => match us, hl with | [_, _, _, _], _ => rfl
  have F_m_Haul_cheapen := fun_mk (st := s_m_Haul_cheapen) l_m_Haul_cheapen c_m_Haul_cheapen_ k_m_Haul_cheapen_
  have b_m_Haul_cheapen := F_m_Haul_cheapen.binds (ps := ["self", "costs"]) fun _ _ _ _ _ _ us hl => match us, hl with | [_, _], _ => rfl
  have F_m_Haul_paid := fun_mk (st := s_m_Haul_paid) l_m_Haul_paid c_m_Haul_paid_ k_m_Haul_paid_
  have b_m_Haul_paid := F_m_Haul_paid.binds (ps := ["self", "costs"]) fun _ _ _ _ _ _ us hl => match us, hl with | [_, _], _ => rfl
  have F_m_Haul_plan := fun_mk (st := s_m_Haul_plan) l_m_Haul_plan c_m_Haul_plan_ k_m_Haul_plan_
  have b_m_Haul_plan := F_m_Haul_plan.binds (ps := ["self", "rows", "columns"]) fun _ _ _ _ _ _ us hl => match us, hl with | [_, _, _], _ => rfl
  have F_m_Haul_prices := fun_mk (st := s_m_Haul_prices) l_m_Haul_prices c_m_Haul_prices_ k_m_Haul_prices_
  have b_m_Haul_prices := F_m_Haul_prices.binds (ps := ["self", "costs"]) fun _ _ _ _ _ _ us hl => match us, hl with | [_, _], _ => rfl
  have F_p_in_parts := fun_mk (st := s_p_in_parts) l_p_in_parts c_p_in_parts_ k_p_in_parts_
  have b_p_in_parts := F_p_in_parts.binds (ps := ["amounts", "grain"]) fun _ _ _ _ _ _ us hl => match us, hl with | [_, _], _ => rfl
  have F_p_all_prices := fun_mk (st := s_p_all_prices) l_p_all_prices c_p_all_prices_ k_p_all_prices_
  have b_p_all_prices := F_p_all_prices.binds (ps := ["costs", "known"]) fun _ _ _ _ _ _ us hl => match us, hl with | [_, _], _ => rfl
  have F_p_first_tree := fun_mk (st := s_p_first_tree) l_p_first_tree c_p_first_tree_ k_p_first_tree_
  have b_p_first_tree := F_p_first_tree.binds (ps := ["costs", "lying", "wanted"]) fun _ _ _ _ _ _ us hl => match us, hl with | [_, _, _], _ => rfl
  have F_p_unit_for := fun_mk (st := s_p_unit_for) l_p_unit_for c_p_unit_for_ k_p_unit_for_
  have b_p_unit_for := F_p_unit_for.binds (ps := ["many"]) fun _ _ _ _ _ _ us hl => match us, hl with | [_], _ => rfl
  have F_p_rounded := fun_mk (st := s_p_rounded) l_p_rounded c_p_rounded_ k_p_rounded_
  have b_p_rounded := F_p_rounded.binds (ps := ["tree"]) fun _ _ _ _ _ _ us hl => match us, hl with | [_], _ => rfl
  have F_p_greedy_tree := fun_mk (st := s_p_greedy_tree) l_p_greedy_tree c_p_greedy_tree_ k_p_greedy_tree_
  have b_p_greedy_tree := F_p_greedy_tree.binds (ps := ["costs", "first", "second"]) fun _ _ _ _ _ _ us hl => match us, hl with | [_, _, _], _ => rfl
  have F_p_hang := fun_mk (st := s_p_hang) l_p_hang c_p_hang_ k_p_hang_
  have b_p_hang := F_p_hang.binds (ps := ["costs", "tree"]) fun _ _ _ _ _ _ us hl => match us, hl with | [_, _], _ => rfl
  have F_p_widest_gap := fun_mk (st := s_p_widest_gap) l_p_widest_gap c_p_widest_gap_ k_p_widest_gap_
  have b_p_widest_gap := F_p_widest_gap.binds (ps := ["costs", "hung"]) fun _ _ _ _ _ _ us hl => match us, hl with | [_, _], _ => rfl
  have F_p_exchange := fun_mk (st := s_p_exchange) l_p_exchange c_p_exchange_ k_p_exchange_
  have b_p_exchange := F_p_exchange.binds (ps := ["tree", "way", "hung"]) fun _ _ _ _ _ _ us hl => match us, hl with | [_, _, _], _ => rfl
  have F_p_are_shares := fun_mk (st := s_p_are_shares) l_p_are_shares c_p_are_shares_ k_p_are_shares_
  have b_p_are_shares := F_p_are_shares.binds (ps := ["thing", "many"]) fun _ _ _ _ _ _ us hl => match us, hl with | [_, _], _ => rfl
  have F_p_are_amounts := fun_mk (st := s_p_are_amounts) l_p_are_amounts c_p_are_amounts_ k_p_are_amounts_
  have b_p_are_amounts := F_p_are_amounts.binds (ps := ["thing", "many"]) fun _ _ _ _ _ _ us hl => match us, hl with | [_, _], _ => rfl
  have F_p_is_table := fun_mk (st := s_p_is_table) l_p_is_table c_p_is_table_ k_p_is_table_
  have b_p_is_table := F_p_is_table.binds (ps := ["thing", "rows", "columns"]) fun _ _ _ _ _ _ us hl => match us, hl with | [_, _, _], _ => rfl
  have F_p_is_heap := fun_mk (st := s_p_is_heap) l_p_is_heap c_p_is_heap_ k_p_is_heap_
  have b_p_is_heap := F_p_is_heap.binds (ps := ["thing"]) fun _ _ _ _ _ _ us hl => match us, hl with | [_], _ => rfl
  have F_p_joined := fun_mk (st := s_p_joined) l_p_joined c_p_joined_ k_p_joined_
  have b_p_joined := F_p_joined.binds (ps := ["rows"]) fun _ _ _ _ _ _ us hl => match us, hl with | [_], _ => rfl
  have F_p_weighed := fun_mk (st := s_p_weighed) l_p_weighed c_p_weighed_ k_p_weighed_
  have b_p_weighed := F_p_weighed.binds (ps := ["shares", "others"]) fun _ _ _ _ _ _ us hl => match us, hl with | [_, _], _ => rfl
  have F_p_cost_of := fun_mk (st := s_p_cost_of) l_p_cost_of c_p_cost_of_ k_p_cost_of_
  have b_p_cost_of := F_p_cost_of.binds (ps := ["costs", "plan"]) fun _ _ _ _ _ _ us hl => match us, hl with | [_, _], _ => rfl
  have F_p_cheapest := fun_mk (st := s_p_cheapest) l_p_cheapest c_p_cheapest_ k_p_cheapest_
  have b_p_cheapest := F_p_cheapest.binds (ps := ["costs", "first", "second"]) fun _ _ _ _ _ _ us hl => match us, hl with | [_, _, _], _ => rfl
  have F_p_shares_over := fun_mk (st := s_p_shares_over) l_p_shares_over c_p_shares_over_ k_p_shares_over_
  have b_p_shares_over := F_p_shares_over.binds (ps := ["bottom", "rows"]) fun _ _ _ _ _ _ us hl => match us, hl with | [_, _], _ => rfl
  have F_l_well := fun_mk (st := s_l_well) l_l_well c_l_well_ k_l_well_
  have b_l_well := F_l_well.binds (ps := ["_law_cell"]) fun _ _ _ _ _ _ us hl => match us, hl with | [_], _ => rfl
  have F_l_draw := fun_mk (st := s_l_draw) l_l_draw c_l_draw_ k_l_draw_
  have b_l_draw := F_l_draw.binds (ps := ["_law_well_here", "_law_many"]) fun _ _ _ _ _ _ us hl => match us, hl with | [_, _], _ => rfl
  have F_l_one := fun_mk (st := s_l_one) l_l_one c_l_one_ k_l_one_
  have b_l_one := F_l_one.binds (ps := ["_law_well_here", "_law_some"]) fun _ _ _ _ _ _ us hl => match us, hl with | [_, _], _ => rfl
  have F_l_low := fun_mk (st := s_l_low) l_l_low c_l_low_ k_l_low_
  have b_l_low := F_l_low.binds (ps := ["_law_top", "_law_bottom"]) fun _ _ _ _ _ _ us hl => match us, hl with | [_, _], _ => rfl
  have F_l_pair := fun_mk (st := s_l_pair) l_l_pair c_l_pair_ k_l_pair_
  have b_l_pair := F_l_pair.binds (ps := ["_law_share"]) fun _ _ _ _ _ _ us hl => match us, hl with | [_], _ => rfl
  have F_l_heap := fun_mk (st := s_l_heap) l_l_heap c_l_heap_ k_l_heap_
  have b_l_heap := F_l_heap.binds (ps := ["_law_well_here", "_law_many"]) fun _ _ _ _ _ _ us hl => match us, hl with | [_, _], _ => rfl
  have F_l_costs := fun_mk (st := s_l_costs) l_l_costs c_l_costs_ k_l_costs_
  have b_l_costs := F_l_costs.binds (ps := ["_law_well_here", "_law_here", "_law_there"]) fun _ _ _ _ _ _ us hl => match us, hl with | [_, _, _], _ => rfl
  have F_l_shares := fun_mk (st := s_l_shares) l_l_shares c_l_shares_ k_l_shares_
  have b_l_shares := F_l_shares.binds (ps := ["_law_pairs"]) fun _ _ _ _ _ _ us hl => match us, hl with | [_], _ => rfl
  have F_l_rows := fun_mk (st := s_l_rows) l_l_rows c_l_rows_ k_l_rows_
  have b_l_rows := F_l_rows.binds (ps := ["_law_rows_here"]) fun _ _ _ _ _ _ us hl => match us, hl with | [_], _ => rfl
  have F_l_added := fun_mk (st := s_l_added) l_l_added c_l_added_ k_l_added_
  have b_l_added := F_l_added.binds (ps := ["_law_one_here", "_law_other"]) fun _ _ _ _ _ _ us hl => match us, hl with | [_, _], _ => rfl
  have F_l_total := fun_mk (st := s_l_total) l_l_total c_l_total_ k_l_total_
  have b_l_total := F_l_total.binds (ps := ["_law_pairs"]) fun _ _ _ _ _ _ us hl => match us, hl with | [_], _ => rfl
  have F_l_by := fun_mk (st := s_l_by) l_l_by c_l_by_ k_l_by_
  have b_l_by := F_l_by.binds (ps := ["_law_one_here", "_law_other"]) fun _ _ _ _ _ _ us hl => match us, hl with | [_, _], _ => rfl
  have F_l_below := fun_mk (st := s_l_below) l_l_below c_l_below_ k_l_below_
  have b_l_below := F_l_below.binds (ps := ["_law_one_here", "_law_other"]) fun _ _ _ _ _ _ us hl => match us, hl with | [_, _], _ => rfl
  have F_l_filled := fun_mk (st := s_l_filled) l_l_filled c_l_filled_ k_l_filled_
  have b_l_filled := F_l_filled.binds (ps := ["_law_well_here", "_law_first", "_law_second"]) fun _ _ _ _ _ _ us hl => match us, hl with | [_, _, _], _ => rfl
  have F_l_cost := fun_mk (st := s_l_cost) l_l_cost c_l_cost_ k_l_cost_
  have b_l_cost := F_l_cost.binds (ps := ["_law_costs_here", "_law_plan"]) fun _ _ _ _ _ _ us hl => match us, hl with | [_, _], _ => rfl
  have F_l_less := fun_mk (st := s_l_less) l_l_less c_l_less_ k_l_less_
  have b_l_less := F_l_less.binds (ps := ["_law_one_here", "_law_other"]) fun _ _ _ _ _ _ us hl => match us, hl with | [_, _], _ => rfl
  have F_l_top_prices := fun_mk (st := s_l_top_prices) l_l_top_prices c_l_top_prices_ k_l_top_prices_
  have b_l_top_prices := F_l_top_prices.binds (ps := ["_law_well_here", "_law_costs_here"]) fun _ _ _ _ _ _ us hl => match us, hl with | [_, _], _ => rfl
  have F_l_brought := fun_mk (st := s_l_brought) l_l_brought c_l_brought_ k_l_brought_
  have b_l_brought := F_l_brought.binds (ps := ["_law_prices", "_law_first", "_law_second"]) fun _ _ _ _ _ _ us hl => match us, hl with | [_, _, _], _ => rfl
  have F_l_mixed := fun_mk (st := s_l_mixed) l_l_mixed c_l_mixed_ k_l_mixed_
  have b_l_mixed := F_l_mixed.binds (ps := ["_law_one_here", "_law_other", "_law_part"]) fun _ _ _ _ _ _ us hl => match us, hl with | [_, _, _], _ => rfl
  have F_l_tight := fun_mk (st := s_l_tight) l_l_tight c_l_tight_ k_l_tight_
  have b_l_tight := F_l_tight.binds (ps := ["_law_costs_here", "_law_plan", "_law_prices"]) fun _ _ _ _ _ _ us hl => match us, hl with | [_, _, _], _ => rfl
  have F_law := fun_mk (st := s_law) l_law c_law_ k_law_
  have b_law := F_law.binds (ps := ["_law_script"]) fun _ _ _ _ _ _ us hl => match us, hl with | [_], _ => rfl
  exact ⟨PySem.W.fnOf "law" "law" (defArgs s_law) (defBody s_law) (defScope s_law) .none kV_law dc_law pm_law an_law cd_law ct_law, fun s v => .of_eq rfl, fun base _ _ => ok_law (⟨c_FarError, (PySem.W.mg_of X G a_FarError), c_NoShare, (PySem.W.mg_of X G a_NoShare), c_NoHeap, (PySem.W.mg_of X G a_NoHeap), c_NoCosts, (PySem.W.mg_of X G a_NoCosts), c_Share, (PySem.W.mg_of X G a_Share), c_Haul, (PySem.W.mg_of X G a_Haul), f_p__wall, _, F_p__wall, b_p__wall, (PySem.W.mg_of X G a_p__wall), f_p_written, _, F_p_written, b_p_written, (PySem.W.mg_of X G a_p_written), f_p_is_whole, _, F_p_is_whole, b_p_is_whole, (PySem.W.mg_of X G a_p_is_whole), f_m_Share_init, _, F_m_Share_init, b_m_Share_init, e_m_Share_init, f_m_Share_eq, _, F_m_Share_eq, b_m_Share_eq, f_m_Share_str, _, F_m_Share_str, b_m_Share_str, f_p_common_part, _, F_p_common_part, b_p_common_part, (PySem.W.mg_of X G a_p_common_part), f_p_common_multiple, _, F_p_common_multiple, b_p_common_multiple, (PySem.W.mg_of X G a_p_common_multiple), f_p_common_bottom, _, F_p_common_bottom, b_p_common_bottom, (PySem.W.mg_of X G a_p_common_bottom), f_p_tops_over, _, F_p_tops_over, b_p_tops_over, (PySem.W.mg_of X G a_p_tops_over), f_p_sum_of, _, F_p_sum_of, b_p_sum_of, (PySem.W.mg_of X G a_p_sum_of), f_m_Haul_init, _, F_m_Haul_init, b_m_Haul_init, f_m_Haul_cheapen, _, F_m_Haul_cheapen, b_m_Haul_cheapen, f_m_Haul_paid, _, F_m_Haul_paid, b_m_Haul_paid, f_m_Haul_plan, _, F_m_Haul_plan, b_m_Haul_plan, f_m_Haul_prices, _, F_m_Haul_prices, b_m_Haul_prices, f_p_in_parts, _, F_p_in_parts, b_p_in_parts, (PySem.W.mg_of X G a_p_in_parts), f_p_all_prices, _, F_p_all_prices, b_p_all_prices, (PySem.W.mg_of X G a_p_all_prices), f_p_first_tree, _, F_p_first_tree, b_p_first_tree, (PySem.W.mg_of X G a_p_first_tree), f_p_unit_for, _, F_p_unit_for, b_p_unit_for, (PySem.W.mg_of X G a_p_unit_for), f_p_rounded, _, F_p_rounded, b_p_rounded, (PySem.W.mg_of X G a_p_rounded), f_p_greedy_tree, _, F_p_greedy_tree, b_p_greedy_tree, (PySem.W.mg_of X G a_p_greedy_tree), f_p_hang, _, F_p_hang, b_p_hang, (PySem.W.mg_of X G a_p_hang), f_p_widest_gap, _, F_p_widest_gap, b_p_widest_gap, (PySem.W.mg_of X G a_p_widest_gap), f_p_exchange, _, F_p_exchange, b_p_exchange, (PySem.W.mg_of X G a_p_exchange), f_p_are_shares, _, F_p_are_shares, b_p_are_shares, (PySem.W.mg_of X G a_p_are_shares), f_p_are_amounts, _, F_p_are_amounts, b_p_are_amounts, (PySem.W.mg_of X G a_p_are_amounts), f_p_is_table, _, F_p_is_table, b_p_is_table, (PySem.W.mg_of X G a_p_is_table), f_p_is_heap, _, F_p_is_heap, b_p_is_heap, (PySem.W.mg_of X G a_p_is_heap), f_p_joined, _, F_p_joined, b_p_joined, (PySem.W.mg_of X G a_p_joined), f_p_weighed, _, F_p_weighed, b_p_weighed, (PySem.W.mg_of X G a_p_weighed), f_p_cost_of, _, F_p_cost_of, b_p_cost_of, (PySem.W.mg_of X G a_p_cost_of), f_p_cheapest, _, F_p_cheapest, b_p_cheapest, (PySem.W.mg_of X G a_p_cheapest), f_p_shares_over, _, F_p_shares_over, b_p_shares_over, (PySem.W.mg_of X G a_p_shares_over), f_l_well, _, F_l_well, b_l_well, (PySem.W.mg_of X G a_l_well), f_l_draw, _, F_l_draw, b_l_draw, (PySem.W.mg_of X G a_l_draw), f_l_one, _, F_l_one, b_l_one, (PySem.W.mg_of X G a_l_one), f_l_low, _, F_l_low, b_l_low, (PySem.W.mg_of X G a_l_low), f_l_pair, _, F_l_pair, b_l_pair, (PySem.W.mg_of X G a_l_pair), f_l_heap, _, F_l_heap, b_l_heap, (PySem.W.mg_of X G a_l_heap), f_l_costs, _, F_l_costs, b_l_costs, (PySem.W.mg_of X G a_l_costs), f_l_shares, _, F_l_shares, b_l_shares, (PySem.W.mg_of X G a_l_shares), f_l_rows, _, F_l_rows, b_l_rows, (PySem.W.mg_of X G a_l_rows), f_l_added, _, F_l_added, b_l_added, (PySem.W.mg_of X G a_l_added), f_l_total, _, F_l_total, b_l_total, (PySem.W.mg_of X G a_l_total), f_l_by, _, F_l_by, b_l_by, (PySem.W.mg_of X G a_l_by), f_l_below, _, F_l_below, b_l_below, (PySem.W.mg_of X G a_l_below), f_l_filled, _, F_l_filled, b_l_filled, (PySem.W.mg_of X G a_l_filled), f_l_cost, _, F_l_cost, b_l_cost, (PySem.W.mg_of X G a_l_cost), f_l_less, _, F_l_less, b_l_less, (PySem.W.mg_of X G a_l_less), f_l_top_prices, _, F_l_top_prices, b_l_top_prices, (PySem.W.mg_of X G a_l_top_prices), f_l_brought, _, F_l_brought, b_l_brought, (PySem.W.mg_of X G a_l_brought), f_l_mixed, _, F_l_mixed, b_l_mixed, (PySem.W.mg_of X G a_l_mixed), f_l_tight, _, F_l_tight, b_l_tight, (PySem.W.mg_of X G a_l_tight), _, _, F_law, b_law, (PySem.W.mg_of X G a_law), ⟨pg_Share, hd_Share, po_Share, sa_Share⟩, ⟨mk_Share, a_m_Share_init, if_Share, kc_Share⟩, ⟨ha_Share, hn_Share, ht_Share, hm_Share⟩, n_Share_top, n_Share_bottom, ⟨a_m_Share_eq, i_m_Share_eq, k_m_Share_eq_⟩, ⟨a_m_Share_str, i_m_Share_str, k_m_Share_str_⟩, nn_Share, nf_Share_int, nf_Share_str, nf_Share_NoneType, nf_Share_list, nf_Share_tuple, nf_Share_dict, nf_Share_bool, ko_Share, ko_Share_int, ko_Share_str, ko_Share_NoneType, ko_Share_list, ko_Share_tuple, ko_Share_dict, ko_Share_bool, ⟨pg_Haul, hd_Haul, po_Haul, sa_Haul⟩, ⟨mk_Haul, a_m_Haul_init, if_Haul, kc_Haul⟩, ⟨ha_Haul, hn_Haul, ht_Haul, hm_Haul⟩, n_Haul_grain, n_Haul_tree, n_Haul_moves, ⟨a_m_Haul_cheapen, i_m_Haul_cheapen, k_m_Haul_cheapen_⟩, ⟨a_m_Haul_paid, i_m_Haul_paid, k_m_Haul_paid_⟩, ⟨a_m_Haul_plan, i_m_Haul_plan, k_m_Haul_plan_⟩, ⟨a_m_Haul_prices, i_m_Haul_prices, k_m_Haul_prices_⟩, ko_Haul, ko_Haul_int, ko_Haul_str, ko_Haul_NoneType, ko_Haul_list, ko_Haul_tuple, ko_Haul_dict, ko_Haul_bool, _, (PySem.W.mg_of X G ac_PIECE_LENGTH), ⟨_, rfl⟩, _, (PySem.W.mg_of X G ac_MOST_PLACES), ⟨_, rfl⟩, (PySem.W.mg_none_of X G zz_divmod), (PySem.W.mg_none_of X G zz_str), (PySem.W.mg_none_of X G zz_isinstance), (PySem.W.mg_none_of X G zz_int), (PySem.W.mg_none_of X G zz_bool), (PySem.W.mg_none_of X G zz_abs), (PySem.W.mg_none_of X G zz_sum), (PySem.W.mg_none_of X G zz_range), (PySem.W.mg_none_of X G zz_enumerate), (PySem.W.mg_none_of X G zz_max), (PySem.W.mg_none_of X G zz_min), (PySem.W.mg_none_of X G zz_len), (PySem.W.mg_none_of X G zz_zip), (PySem.W.mg_none_of X G zz_list), (PySem.W.mg_none_of X G zz_dict), (PySem.W.mg_none_of X G zz_sorted), (PySem.W.mg_none_of X G zz_all), fact_kit_Share_list, fact_kit_Share_tuple⟩ : Txt K mg)⟩
end Fb
open PySem PySem.W PyProof.Rows
set_option maxRecDepth 100000 in
set_option maxHeartbeats 0 in
theorem PySem.Challenge.cw_farbetween_k14_whole_no_plan_is_cheaper_holds : PySem.Challenge.rw_farbetween_k14_whole_no_plan_is_cheaper.Holds := by
  w_on; o_law; k_head; (case hw => w_witness2)
  k_fill
  refine L2.walk_of (l := PySem.Challenge.rw_farbetween_k14_whole_no_plan_is_cheaper) (n := 63) (k := 14) (x := "_law_script") (CX := fun _ => L2.CX0) (sp := fun w => Fb.spLaw _) rfl (by decide) rfl ⟨rfl, by decide, by decide⟩ (fun w h Y => PySem.W.kIn_of Y) ?F (fun _ _ a ns hl _ hS => ⟨a, ns, rfl, hS, hl, fun _ => rfl⟩) (fun _ _ _ _ _ h => h)
  case F =>
    intro w mg fa h KX G hmg
    refine' Fb.all_mk KX G hmg ?a_FarError ?a_NoShare ?a_NoHeap ?a_NoCosts ?a_Share ?a_Haul ?a_p__wall ?l_p__wall ?c_p__wall_ ?k_p__wall_ ?a_p_written ?l_p_written ?c_p_written_ ?k_p_written_ ?a_p_is_whole ?l_p_is_whole ?c_p_is_whole_ ?k_p_is_whole_ ?a_m_Share_init ?l_m_Share_init ?lt_m_Share_init ?c_m_Share_init_ ?k_m_Share_init_ ?a_m_Share_eq ?l_m_Share_eq ?c_m_Share_eq_ ?k_m_Share_eq_ ?a_m_Share_str ?l_m_Share_str ?c_m_Share_str_ ?k_m_Share_str_ ?a_p_common_part ?l_p_common_part ?c_p_common_part_ ?k_p_common_part_ ?a_p_common_multiple ?l_p_common_multiple ?c_p_common_multiple_ ?k_p_common_multiple_ ?a_p_common_bottom ?l_p_common_bottom ?c_p_common_bottom_ ?k_p_common_bottom_ ?a_p_tops_over ?l_p_tops_over ?c_p_tops_over_ ?k_p_tops_over_ ?a_p_sum_of ?l_p_sum_of ?c_p_sum_of_ ?k_p_sum_of_ ?a_m_Haul_init ?l_m_Haul_init ?c_m_Haul_init_ ?k_m_Haul_init_ ?a_m_Haul_cheapen ?l_m_Haul_cheapen ?c_m_Haul_cheapen_ ?k_m_Haul_cheapen_ ?a_m_Haul_paid ?l_m_Haul_paid ?c_m_Haul_paid_ ?k_m_Haul_paid_ ?a_m_Haul_plan ?l_m_Haul_plan ?c_m_Haul_plan_ ?k_m_Haul_plan_ ?a_m_Haul_prices ?l_m_Haul_prices ?c_m_Haul_prices_ ?k_m_Haul_prices_ ?a_p_in_parts ?l_p_in_parts ?c_p_in_parts_ ?k_p_in_parts_ ?a_p_all_prices ?l_p_all_prices ?c_p_all_prices_ ?k_p_all_prices_ ?a_p_first_tree ?l_p_first_tree ?c_p_first_tree_ ?k_p_first_tree_ ?a_p_unit_for ?l_p_unit_for ?c_p_unit_for_ ?k_p_unit_for_ ?a_p_rounded ?l_p_rounded ?c_p_rounded_ ?k_p_rounded_ ?a_p_greedy_tree ?l_p_greedy_tree ?c_p_greedy_tree_ ?k_p_greedy_tree_ ?a_p_hang ?l_p_hang ?c_p_hang_ ?k_p_hang_ ?a_p_widest_gap ?l_p_widest_gap ?c_p_widest_gap_ ?k_p_widest_gap_ ?a_p_exchange ?l_p_exchange ?c_p_exchange_ ?k_p_exchange_ ?a_p_are_shares ?l_p_are_shares ?c_p_are_shares_ ?k_p_are_shares_ ?a_p_are_amounts ?l_p_are_amounts ?c_p_are_amounts_ ?k_p_are_amounts_ ?a_p_is_table ?l_p_is_table ?c_p_is_table_ ?k_p_is_table_ ?a_p_is_heap ?l_p_is_heap ?c_p_is_heap_ ?k_p_is_heap_ ?a_p_joined ?l_p_joined ?c_p_joined_ ?k_p_joined_ ?a_p_weighed ?l_p_weighed ?c_p_weighed_ ?k_p_weighed_ ?a_p_cost_of ?l_p_cost_of ?c_p_cost_of_ ?k_p_cost_of_ ?a_p_cheapest ?l_p_cheapest ?c_p_cheapest_ ?k_p_cheapest_ ?a_p_shares_over ?l_p_shares_over ?c_p_shares_over_ ?k_p_shares_over_ ?a_l_well ?l_l_well ?c_l_well_ ?k_l_well_ ?a_l_draw ?l_l_draw ?c_l_draw_ ?k_l_draw_ ?a_l_one ?l_l_one ?c_l_one_ ?k_l_one_ ?a_l_low ?l_l_low ?c_l_low_ ?k_l_low_ ?a_l_pair ?l_l_pair ?c_l_pair_ ?k_l_pair_ ?a_l_heap ?l_l_heap ?c_l_heap_ ?k_l_heap_ ?a_l_costs ?l_l_costs ?c_l_costs_ ?k_l_costs_ ?a_l_shares ?l_l_shares ?c_l_shares_ ?k_l_shares_ ?a_l_rows ?l_l_rows ?c_l_rows_ ?k_l_rows_ ?a_l_added ?l_l_added ?c_l_added_ ?k_l_added_ ?a_l_total ?l_l_total ?c_l_total_ ?k_l_total_ ?a_l_by ?l_l_by ?c_l_by_ ?k_l_by_ ?a_l_below ?l_l_below ?c_l_below_ ?k_l_below_ ?a_l_filled ?l_l_filled ?c_l_filled_ ?k_l_filled_ ?a_l_cost ?l_l_cost ?c_l_cost_ ?k_l_cost_ ?a_l_less ?l_l_less ?c_l_less_ ?k_l_less_ ?a_l_top_prices ?l_l_top_prices ?c_l_top_prices_ ?k_l_top_prices_ ?a_l_brought ?l_l_brought ?c_l_brought_ ?k_l_brought_ ?a_l_mixed ?l_l_mixed ?c_l_mixed_ ?k_l_mixed_ ?a_l_tight ?l_l_tight ?c_l_tight_ ?k_l_tight_ ?a_law ?l_law ?c_law_ ?k_law_ ?pg_Share ?hd_Share ?po_Share ?sa_Share ?mk_Share ?kc_Share ?if_Share ?ha_Share ?hn_Share ?ht_Share ?hm_Share ?n_Share_top ?n_Share_bottom ?i_m_Share_eq ?i_m_Share_str ?nn_Share ?nf_Share_int ?nf_Share_str ?nf_Share_NoneType ?nf_Share_list ?nf_Share_tuple ?nf_Share_dict ?nf_Share_bool ?ko_Share ?ko_Share_int ?ko_Share_str ?ko_Share_NoneType ?ko_Share_list ?ko_Share_tuple ?ko_Share_dict ?ko_Share_bool ?pg_Haul ?hd_Haul ?po_Haul ?sa_Haul ?mk_Haul ?kc_Haul ?if_Haul ?ha_Haul ?hn_Haul ?ht_Haul ?hm_Haul ?n_Haul_grain ?n_Haul_tree ?n_Haul_moves ?i_m_Haul_cheapen ?i_m_Haul_paid ?i_m_Haul_plan ?i_m_Haul_prices ?ko_Haul ?ko_Haul_int ?ko_Haul_str ?ko_Haul_NoneType ?ko_Haul_list ?ko_Haul_tuple ?ko_Haul_dict ?ko_Haul_bool ?ac_PIECE_LENGTH ?ac_MOST_PLACES ?zz_divmod ?zz_str ?zz_isinstance ?zz_int ?zz_bool ?zz_abs ?zz_sum ?zz_range ?zz_enumerate ?zz_max ?zz_min ?zz_len ?zz_zip ?zz_list ?zz_dict ?zz_sorted ?zz_all ?fact_kit_Share_list ?fact_kit_Share_tuple
    (case a_FarError => k_is)
    (case a_NoShare => k_is)
    (case a_NoHeap => k_is)
    (case a_NoCosts => k_is)
    (case a_Share => k_is)
    (case a_Haul => k_is)
    (case a_p__wall => k_is)
    (case l_p__wall => k_is)
    (case c_p__wall_ => k_is)
    (case k_p__wall_ => k_is)
    (case a_p_written => k_is)
    (case l_p_written => k_is)
    (case c_p_written_ => k_is)
    (case k_p_written_ => k_is)
    (case a_p_is_whole => k_is)
    (case l_p_is_whole => k_is)
    (case c_p_is_whole_ => k_is)
    (case k_p_is_whole_ => k_is)
    (case a_m_Share_init => k_is)
    (case l_m_Share_init => k_is)
    (case lt_m_Share_init => k_is)
    (case c_m_Share_init_ => k_is)
    (case k_m_Share_init_ => k_is)
    (case a_m_Share_eq => k_is)
    (case l_m_Share_eq => k_is)
    (case c_m_Share_eq_ => k_is)
    (case k_m_Share_eq_ => k_is)
    (case a_m_Share_str => k_is)
    (case l_m_Share_str => k_is)
    (case c_m_Share_str_ => k_is)
    (case k_m_Share_str_ => k_is)
    (case a_p_common_part => k_is)
    (case l_p_common_part => k_is)
    (case c_p_common_part_ => k_is)
    (case k_p_common_part_ => k_is)
    (case a_p_common_multiple => k_is)
    (case l_p_common_multiple => k_is)
    (case c_p_common_multiple_ => k_is)
    (case k_p_common_multiple_ => k_is)
    (case a_p_common_bottom => k_is)
    (case l_p_common_bottom => k_is)
    (case c_p_common_bottom_ => k_is)
    (case k_p_common_bottom_ => k_is)
    (case a_p_tops_over => k_is)
    (case l_p_tops_over => k_is)
    (case c_p_tops_over_ => k_is)
    (case k_p_tops_over_ => k_is)
    (case a_p_sum_of => k_is)
    (case l_p_sum_of => k_is)
    (case c_p_sum_of_ => k_is)
    (case k_p_sum_of_ => k_is)
    (case a_m_Haul_init => k_is)
    (case l_m_Haul_init => k_is)
    (case c_m_Haul_init_ => k_is)
    (case k_m_Haul_init_ => k_is)
    (case a_m_Haul_cheapen => k_is)
    (case l_m_Haul_cheapen => k_is)
    (case c_m_Haul_cheapen_ => k_is)
    (case k_m_Haul_cheapen_ => k_is)
    (case a_m_Haul_paid => k_is)
    (case l_m_Haul_paid => k_is)
    (case c_m_Haul_paid_ => k_is)
    (case k_m_Haul_paid_ => k_is)
    (case a_m_Haul_plan => k_is)
    (case l_m_Haul_plan => k_is)
    (case c_m_Haul_plan_ => k_is)
    (case k_m_Haul_plan_ => k_is)
    (case a_m_Haul_prices => k_is)
    (case l_m_Haul_prices => k_is)
    (case c_m_Haul_prices_ => k_is)
    (case k_m_Haul_prices_ => k_is)
    (case a_p_in_parts => k_is)
    (case l_p_in_parts => k_is)
    (case c_p_in_parts_ => k_is)
    (case k_p_in_parts_ => k_is)
    (case a_p_all_prices => k_is)
    (case l_p_all_prices => k_is)
    (case c_p_all_prices_ => k_is)
    (case k_p_all_prices_ => k_is)
    (case a_p_first_tree => k_is)
    (case l_p_first_tree => k_is)
    (case c_p_first_tree_ => k_is)
    (case k_p_first_tree_ => k_is)
    (case a_p_unit_for => k_is)
    (case l_p_unit_for => k_is)
    (case c_p_unit_for_ => k_is)
    (case k_p_unit_for_ => k_is)
    (case a_p_rounded => k_is)
    (case l_p_rounded => k_is)
    (case c_p_rounded_ => k_is)
    (case k_p_rounded_ => k_is)
    (case a_p_greedy_tree => k_is)
    (case l_p_greedy_tree => k_is)
    (case c_p_greedy_tree_ => k_is)
    (case k_p_greedy_tree_ => k_is)
    (case a_p_hang => k_is)
    (case l_p_hang => k_is)
    (case c_p_hang_ => k_is)
    (case k_p_hang_ => k_is)
    (case a_p_widest_gap => k_is)
    (case l_p_widest_gap => k_is)
    (case c_p_widest_gap_ => k_is)
    (case k_p_widest_gap_ => k_is)
    (case a_p_exchange => k_is)
    (case l_p_exchange => k_is)
    (case c_p_exchange_ => k_is)
    (case k_p_exchange_ => k_is)
    (case a_p_are_shares => k_is)
    (case l_p_are_shares => k_is)
    (case c_p_are_shares_ => k_is)
    (case k_p_are_shares_ => k_is)
    (case a_p_are_amounts => k_is)
    (case l_p_are_amounts => k_is)
    (case c_p_are_amounts_ => k_is)
    (case k_p_are_amounts_ => k_is)
    (case a_p_is_table => k_is)
    (case l_p_is_table => k_is)
    (case c_p_is_table_ => k_is)
    (case k_p_is_table_ => k_is)
    (case a_p_is_heap => k_is)
    (case l_p_is_heap => k_is)
    (case c_p_is_heap_ => k_is)
    (case k_p_is_heap_ => k_is)
    (case a_p_joined => k_is)
    (case l_p_joined => k_is)
    (case c_p_joined_ => k_is)
    (case k_p_joined_ => k_is)
    (case a_p_weighed => k_is)
    (case l_p_weighed => k_is)
    (case c_p_weighed_ => k_is)
    (case k_p_weighed_ => k_is)
    (case a_p_cost_of => k_is)
    (case l_p_cost_of => k_is)
    (case c_p_cost_of_ => k_is)
    (case k_p_cost_of_ => k_is)
    (case a_p_cheapest => k_is)
    (case l_p_cheapest => k_is)
    (case c_p_cheapest_ => k_is)
    (case k_p_cheapest_ => k_is)
    (case a_p_shares_over => k_is)
    (case l_p_shares_over => k_is)
    (case c_p_shares_over_ => k_is)
    (case k_p_shares_over_ => k_is)
    (case a_l_well => k_is)
    (case l_l_well => k_is)
    (case c_l_well_ => k_is)
    (case k_l_well_ => k_is)
    (case a_l_draw => k_is)
    (case l_l_draw => k_is)
    (case c_l_draw_ => k_is)
    (case k_l_draw_ => k_is)
    (case a_l_one => k_is)
    (case l_l_one => k_is)
    (case c_l_one_ => k_is)
    (case k_l_one_ => k_is)
    (case a_l_low => k_is)
    (case l_l_low => k_is)
    (case c_l_low_ => k_is)
    (case k_l_low_ => k_is)
    (case a_l_pair => k_is)
    (case l_l_pair => k_is)
    (case c_l_pair_ => k_is)
    (case k_l_pair_ => k_is)
    (case a_l_heap => k_is)
    (case l_l_heap => k_is)
    (case c_l_heap_ => k_is)
    (case k_l_heap_ => k_is)
    (case a_l_costs => k_is)
    (case l_l_costs => k_is)
    (case c_l_costs_ => k_is)
    (case k_l_costs_ => k_is)
    (case a_l_shares => k_is)
    (case l_l_shares => k_is)
    (case c_l_shares_ => k_is)
    (case k_l_shares_ => k_is)
    (case a_l_rows => k_is)
    (case l_l_rows => k_is)
    (case c_l_rows_ => k_is)
    (case k_l_rows_ => k_is)
    (case a_l_added => k_is)
    (case l_l_added => k_is)
    (case c_l_added_ => k_is)
    (case k_l_added_ => k_is)
    (case a_l_total => k_is)
    (case l_l_total => k_is)
    (case c_l_total_ => k_is)
    (case k_l_total_ => k_is)
    (case a_l_by => k_is)
    (case l_l_by => k_is)
    (case c_l_by_ => k_is)
    (case k_l_by_ => k_is)
    (case a_l_below => k_is)
    (case l_l_below => k_is)
    (case c_l_below_ => k_is)
    (case k_l_below_ => k_is)
    (case a_l_filled => k_is)
    (case l_l_filled => k_is)
    (case c_l_filled_ => k_is)
    (case k_l_filled_ => k_is)
    (case a_l_cost => k_is)
    (case l_l_cost => k_is)
    (case c_l_cost_ => k_is)
    (case k_l_cost_ => k_is)
    (case a_l_less => k_is)
    (case l_l_less => k_is)
    (case c_l_less_ => k_is)
    (case k_l_less_ => k_is)
    (case a_l_top_prices => k_is)
    (case l_l_top_prices => k_is)
    (case c_l_top_prices_ => k_is)
    (case k_l_top_prices_ => k_is)
    (case a_l_brought => k_is)
    (case l_l_brought => k_is)
    (case c_l_brought_ => k_is)
    (case k_l_brought_ => k_is)
    (case a_l_mixed => k_is)
    (case l_l_mixed => k_is)
    (case c_l_mixed_ => k_is)
    (case k_l_mixed_ => k_is)
    (case a_l_tight => k_is)
    (case l_l_tight => k_is)
    (case c_l_tight_ => k_is)
    (case k_l_tight_ => k_is)
    (case a_law => k_is)
    (case l_law => k_is)
    (case c_law_ => k_is)
    (case k_law_ => k_is)
    (case pg_Share => k_is)
    (case hd_Share => k_is)
    (case po_Share => k_is)
    (case sa_Share => k_is)
    (case mk_Share => k_is)
    (case kc_Share => k_is)
    (case if_Share => k_is)
    (case ha_Share => k_is)
    (case hn_Share => k_is)
    (case ht_Share => k_is)
    (case hm_Share => k_is)
    (case n_Share_top => k_is)
    (case n_Share_bottom => k_is)
    (case i_m_Share_eq => k_is)
    (case i_m_Share_str => k_is)
    (case nn_Share => k_is)
    (case nf_Share_int => k_is)
    (case nf_Share_str => k_is)
    (case nf_Share_NoneType => k_is)
    (case nf_Share_list => k_is)
    (case nf_Share_tuple => k_is)
    (case nf_Share_dict => k_is)
    (case nf_Share_bool => k_is)
    (case ko_Share => kit_is)
    (case ko_Share_int => kit_is)
    (case ko_Share_str => kit_is)
    (case ko_Share_NoneType => kit_is)
    (case ko_Share_list => kit_is)
    (case ko_Share_tuple => kit_is)
    (case ko_Share_dict => kit_is)
    (case ko_Share_bool => kit_is)
    (case pg_Haul => k_is)
    (case hd_Haul => k_is)
    (case po_Haul => k_is)
    (case sa_Haul => k_is)
    (case mk_Haul => k_is)
    (case kc_Haul => k_is)
    (case if_Haul => k_is)
    (case ha_Haul => k_is)
    (case hn_Haul => k_is)
    (case ht_Haul => k_is)
    (case hm_Haul => k_is)
    (case n_Haul_grain => k_is)
    (case n_Haul_tree => k_is)
    (case n_Haul_moves => k_is)
    (case i_m_Haul_cheapen => k_is)
    (case i_m_Haul_paid => k_is)
    (case i_m_Haul_plan => k_is)
    (case i_m_Haul_prices => k_is)
    (case ko_Haul => kit_is)
    (case ko_Haul_int => kit_is)
    (case ko_Haul_str => kit_is)
    (case ko_Haul_NoneType => kit_is)
    (case ko_Haul_list => kit_is)
    (case ko_Haul_tuple => kit_is)
    (case ko_Haul_dict => kit_is)
    (case ko_Haul_bool => kit_is)
    (case ac_PIECE_LENGTH => k_is)
    (case ac_MOST_PLACES => k_is)
    (case zz_divmod => k_is)
    (case zz_str => k_is)
    (case zz_isinstance => k_is)
    (case zz_int => k_is)
    (case zz_bool => k_is)
    (case zz_abs => k_is)
    (case zz_sum => k_is)
    (case zz_range => k_is)
    (case zz_enumerate => k_is)
    (case zz_max => k_is)
    (case zz_min => k_is)
    (case zz_len => k_is)
    (case zz_zip => k_is)
    (case zz_list => k_is)
    (case zz_dict => k_is)
    (case zz_sorted => k_is)
    (case zz_all => k_is)
    (case fact_kit_Share_list => kit_is)
    (case fact_kit_Share_tuple => kit_is)
