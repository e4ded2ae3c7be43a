import PyProof.Rows.All
import Wide.All
import OpenK.AllK
import Wide.FinOn
import HandS.ForMost
import HandS.Wide
import HandS.IsInst
import HandS.Defaults
import HandS.OwnEq
import HandS.Zip
import HandS.Style
import HandS.SetFor
import KE.RegKIsAll
import HandS.FStr
import HandS.NoneIn
import HandS.Exc
import HandS.TryOnly
import HandS.ExcOwn
import HandS.WordsExc
import HandS.ExcIs
import HandS.Walk
import HandS.Text
import PySem.Challenge.RW_farbetween_k01_shares_made
set_option Elab.async false
set_option linter.all false
set_option maxRecDepth 100000
/-! Part A: rules and mathematics that hang on no row. -/
namespace Fb
open PySem PySem.Spec PyProof.Rows L2
/-! ### rules -/
section
variable {X : Cx}
/-- // by any divisor but 0 below 2 ^ 9000 -/
def CDivZ (_ j : Int) : Prop := j ≠ 0 ∧ j.natAbs.log2 < 9000
theorem op_fdivZ : OpR X (binaryOp .FloorDiv) (rI CDivZ fun i j => .int (i.fdiv j)) := opI fun _ _ _ _ _ _ _ hc q => floordiv_int hc.1 q (.inl (PyProof.noPylong_of_log2 hc.2))
def ipC (C : Int → Int → Prop) (f : Int → Int → Int) : TIp := fun x y H Q => ∃ i j, x = .int i ∧ y = .int j ∧ C i j ∧ Q (.int (f i j)) H
theorem ip_mulW : PIp X .Mult (ipC CMulW fun i j => i * j) := by
  intro pins s σ H x y v u Q I r1 r2 h
  obtain ⟨i, j, e1, e2, hc, q⟩ := h
  subst e1; subst e2
  obtain ⟨t, rfl⟩ := r1
  obtain ⟨t', rfl⟩ := r2
  exact imul_int ⟨.int _, H, I.tok _, ⟨_, rfl⟩, q⟩ hc.ok
end
/-! ### the same rules with the written part named (within a comprehension) -/
section
variable {X : Cx} {K : PySem.W.Frag} {e : Expr} {ta : TE} {f : Str} {pos : Pos}
theorem pe_fldK (hK : X.K = K) (he : PE X e ta) (hb : attributeBase e f X.env (eval e X.env) = eval e X.env) : PE X (.Attribute e f pos) (tFld K ta f) := hK ▸ pe_fld he hb
theorem ix_listK (hK : X.K = K) : IxR X (rIxL K) := hK ▸ ix_list
theorem ix_tupK (hK : X.K = K) : IxR X (rIxT K) := hK ▸ ix_tup
theorem sl_listK (hK : X.K = K) : SlR X (rSlL K) := hK ▸ sl_list
theorem call_len_seqK (hK : X.K = K) : CallR X (.builtin "len") (fun xs H Q => ∃ p ys, xs = [.ref p] ∧ (SqL K H p ys ∨ SqT K H p ys) ∧ Q (.int ys.length) H) := hK ▸ call_len_seq
theorem call_isiK (hK : X.K = K) : CallR X (.builtin "isinstance") (rIsi K) := hK ▸ call_isi
end
/-- what isinstance asks of a class -/
structure TyIns (K : PySem.W.Frag) (C : Addr) : Prop where
  ha : PySem.W.findIn K (.ref C) "__class__" = some (some (.builtin "object.__class__"))
  hn : PySem.W.specialIn K (.builtin "object.__class__") "__get__" = some (some (.builtin "getset_descriptor.__get__"))
  htk : PySem.W.takesIn K (.builtin "object.__class__") = some true
  hm : PySem.W.mroIn K C (.type "object") = some true
/-! ### heaps -/
theorem same_upd {H : Hp} {p : Addr} {o : HO} (h : H p = none) : Same H (upd H p o) := fun b x e => by
  rw [upd_ne (ne_of_none e h)]
  exact e
theorem same_upd2 {G H : Hp} {p : Addr} {o : HO} (s : Same G H) (h : H p = none) : Same G (upd H p o) := s.trans (same_upd h)
/-- over a new object that has been stored into once more -/
theorem same_over {G H : Hp} {p : Addr} {o : HO} (s : Same G H) (h : G p = none) : Same G (upd H p o) := fun b x e => by
  rw [upd_ne (ne_of_none e h)]
  exact s _ _ e
theorem sqT_new {K : PySem.W.Frag} {H : Hp} {p : Addr} {xs : List V} : SqT K (upd H p (.tup xs)) p xs := .inl (.inl upd_same)
theorem sqL_new {K : PySem.W.Frag} {H : Hp} {p : Addr} {xs : List V} : SqL K (upd H p (.lst xs)) p xs := .inl (.inl upd_same)
/-- the heap without what stands at a -/
def hid (a : Addr) (H : Hp) : Hp := fun b => if b = a then none else H b
theorem hid_same {a : Addr} {H : Hp} : Same (hid a H) H := fun b o e => by
  unfold hid at e
  by_cases h : b = a
  · rw [if_pos h] at e; cases e
  · rw [if_neg h] at e; exact e
theorem hid_ne {a b : Addr} {H : Hp} (h : b ≠ a) : hid a H b = H b := if_neg h
theorem hid_self {a : Addr} {H : Hp} : hid a H a = none := if_pos rfl
theorem hid_mono {a : Addr} {H H' : Hp} (s : Same H H') : Same (hid a H) (hid a H') := fun b o e => by
  by_cases h : b = a
  · rw [h, hid_self] at e; cases e
  · rw [hid_ne h] at e ⊢; exact s _ _ e
theorem hid_upd {a : Addr} {H : Hp} {o : HO} : hid a (upd H a o) = hid a H := by
  funext b
  by_cases h : b = a
  · rw [h, hid_self, hid_self]
  · rw [hid_ne h, hid_ne h, upd_ne h]
theorem hid_updN {a p : Addr} {H : Hp} {o : HO} (h : p ≠ a) : hid a (upd H p o) = upd (hid a H) p o := by
  funext b
  by_cases hb : b = a
  · rw [hb, hid_self, upd_ne (Ne.symm h), hid_self]
  · rw [hid_ne hb]
    by_cases hp : b = p
    · rw [hp, upd_same, upd_same]
    · rw [upd_ne hp, upd_ne hp, hid_ne hb]
/-! ### shares in the heap -/
theorem tb : ¬ (("top" : Str) = "bottom") := by decide +kernel
def flds (q : Rat) : List (Str × V) := putF "bottom" (.int (q.den : Int)) (putF "top" (.int q.num) [])
theorem flds_top (q : Rat) : (flds q).lookup ("top" : Str) = some (.int q.num) := by
  unfold flds
  rw [lookup_putF, if_neg tb, lookup_putF, if_pos rfl]
theorem flds_bottom (q : Rat) : (flds q).lookup ("bottom" : Str) = some (.int (q.den : Int)) := by
  unfold flds
  rw [lookup_putF, if_pos rfl]
def IsShare (C : Addr) (H : Hp) (v : V) (q : Rat) : Prop := ∃ p dx, v = .ref p ∧ H p = some (.ins C dx (flds q))
theorem IsShare.mono {C : Addr} {H H' : Hp} {v : V} {q : Rat} (h : IsShare C H v q) (s : Same H H') : IsShare C H' v q := by
  obtain ⟨p, dx, e, h⟩ := h
  exact ⟨p, dx, e, s _ _ h⟩
/-! ### the greatest common part, and lowest terms -/
theorem gcd_step (a b : Int) : Int.gcd b (a.fmod b) = Int.gcd a b := by
  have e : a.fmod b = a - b * a.fdiv b := Int.fmod_def a b
  rw [e, Int.gcd_sub_mul_left_right, Int.gcd_comm]
theorem fmod_lt (a b : Int) (h : b ≠ 0) : (a.fmod b).natAbs < b.natAbs := by
  rw [Int.fmod_eq_emod]
  have h1 := Int.emod_nonneg a h
  have h2 := Int.emod_lt a h
  split
  · omega
  · rename_i z
    have h3 : ¬ b ∣ a := fun d => z (.inr d)
    have h4 : a % b ≠ 0 := fun e => h3 (Int.dvd_of_emod_eq_zero e)
    have h5 : ¬ 0 ≤ b := fun d => z (.inl d)
    omega
/-- the divisor that brings t over b to lowest terms, its sign the bottom's -/
def cut (t b : Int) : Int := if b < 0 then -(Int.gcd t b : Int) else (Int.gcd t b : Int)
theorem gcd_pos {t b : Int} (h : b ≠ 0) : 0 < Int.gcd t b := Int.gcd_pos_of_ne_zero_right _ h
theorem cut_ne {t b : Int} (h : b ≠ 0) : cut t b ≠ 0 := by
  have := gcd_pos (t := t) h
  unfold cut
  split <;> omega
theorem cut_abs {t b : Int} : (cut t b).natAbs = Int.gcd t b := by
  unfold cut
  split <;> omega
theorem cut_le {t b : Int} (h : b ≠ 0) : (cut t b).natAbs ≤ b.natAbs := by
  rw [cut_abs]
  exact Nat.le_of_dvd (by omega) (Int.natAbs_dvd_natAbs.mpr (Int.gcd_dvd_right t b))
theorem cut_top {t b : Int} (h : b ≠ 0) : t.fdiv (cut t b) = (Rat.divInt t b).num := by
  have d : (Int.gcd t b : Int) ∣ t := Int.gcd_dvd_left t b
  rw [Rat.num_divInt, Int.gcd_comm b t]
  unfold cut
  by_cases hb : b < 0
  · rw [if_pos hb, Int.sign_eq_neg_one_of_neg hb, Int.fdiv_eq_ediv_of_dvd (Int.neg_dvd.mpr d), Int.ediv_neg, Int.neg_one_mul, Int.neg_ediv_of_dvd d]
  · rw [if_neg hb, Int.sign_eq_one_of_pos (by omega), Int.one_mul, Int.fdiv_eq_ediv_of_dvd d]
theorem cut_bottom {t b : Int} (h : b ≠ 0) : b.fdiv (cut t b) = ((Rat.divInt t b).den : Int) := by
  have d : (Int.gcd t b : Int) ∣ b := Int.gcd_dvd_right t b
  rw [Rat.den_divInt, if_neg h, Int.gcd_comm b t]
  unfold cut
  rw [Int.natCast_ediv]
  by_cases hb : b < 0
  · rw [if_pos hb, Int.fdiv_eq_ediv_of_dvd (Int.neg_dvd.mpr d), Int.ediv_neg, ← Int.neg_ediv_of_dvd d]
    congr 1
    omega
  · rw [if_neg hb, Int.fdiv_eq_ediv_of_dvd d]
    congr 1
    omega
end Fb

/-! Part A2: shares as rational numbers, their bounds; sums over a common bottom; lists that comprehensions make. -/
namespace Fb
open PySem PySem.Spec PyProof.Rows L2
/-! ### bounds -/
structure Bd (n : Nat) (q : Rat) : Prop where
  num : q.num.natAbs < 2 ^ n
  den : q.den < 2 ^ n
theorem Bd.mono {n m : Nat} {q : Rat} (h : Bd n q) (l : n ≤ m) : Bd m q :=
  ⟨Nat.lt_of_lt_of_le h.num (Nat.pow_le_pow_right (by decide) l), Nat.lt_of_lt_of_le h.den (Nat.pow_le_pow_right (by decide) l)⟩
theorem Bd.pos {n : Nat} {q : Rat} (h : Bd n q) : 0 < n := by
  have := h.den
  have := q.den_pos
  cases n with
  | zero => simp at *; omega
  | succ n => omega
theorem divInt_num_le {t b : Int} (h : b ≠ 0) : (Rat.divInt t b).num.natAbs ≤ t.natAbs := by
  have d : (cut t b) ∣ t := by
    have d := Int.gcd_dvd_left t b
    unfold cut
    split
    · exact Int.neg_dvd.mpr d
    · exact d
  have e : (Rat.divInt t b).num * cut t b = t := by
    rw [← cut_top h, Int.fdiv_eq_ediv_of_dvd d, Int.ediv_mul_cancel d]
  have e2 := congrArg Int.natAbs e
  rw [Int.natAbs_mul] at e2
  have := cut_ne (t := t) h
  rw [← e2]
  exact Nat.le_mul_of_pos_right _ (by omega)
theorem divInt_den_le {t b : Int} (h : b ≠ 0) : (Rat.divInt t b).den ≤ b.natAbs := by
  rw [Rat.den_divInt, if_neg h]
  exact Nat.div_le_self _ _
theorem Bd.divInt {t b : Int} {n : Nat} (h : b ≠ 0) (ht : t.natAbs < 2 ^ n) (hb : b.natAbs < 2 ^ n) : Bd n (Rat.divInt t b) :=
  ⟨Nat.lt_of_le_of_lt (divInt_num_le h) ht, Nat.lt_of_le_of_lt (divInt_den_le h) hb⟩
theorem den_ne (q : Rat) : (q.den : Int) ≠ 0 := by
  have := q.den_pos
  omega
theorem den_abs {n : Nat} {q : Rat} (h : Bd n q) : (q.den : Int).natAbs < 2 ^ n := by
  have := h.den
  omega
theorem dens_ne (x y : Rat) : (x.den : Int) * (y.den : Int) ≠ 0 := Int.mul_ne_zero (den_ne x) (den_ne y)
theorem rat_add (x y : Rat) : Rat.divInt (x.num * (y.den : Int) + y.num * (x.den : Int)) ((x.den : Int) * (y.den : Int)) = x + y := by
  rw [Rat.add_def', ← Int.natCast_mul, Rat.divInt_ofNat]
theorem rat_sub (x y : Rat) : Rat.divInt (x.num * (y.den : Int) - y.num * (x.den : Int)) ((x.den : Int) * (y.den : Int)) = x - y := by
  rw [Rat.sub_def', ← Int.natCast_mul, Rat.divInt_ofNat]
theorem rat_mul (x y : Rat) : Rat.divInt (x.num * y.num) ((x.den : Int) * (y.den : Int)) = x * y := by
  rw [Rat.mul_def', ← Int.natCast_mul, Rat.divInt_ofNat]
theorem rat_div (x y : Rat) : Rat.divInt (x.num * (y.den : Int)) ((x.den : Int) * y.num) = x / y := by
  rw [Rat.div_def, Rat.inv_def, ← Rat.divInt_mul_divInt, Rat.num_divInt_den]
theorem sum_lt {a b : Int} {n : Nat} (ha : a.natAbs < 2 ^ n) (hb : b.natAbs < 2 ^ n) : (a + b).natAbs < 2 ^ (n + 1) := by
  rw [Nat.pow_succ]
  omega
theorem sub_lt {a b : Int} {n : Nat} (ha : a.natAbs < 2 ^ n) (hb : b.natAbs < 2 ^ n) : (a - b).natAbs < 2 ^ (n + 1) := by
  rw [Nat.pow_succ]
  omega
theorem up {a : Int} {n m : Nat} (ha : a.natAbs < 2 ^ n) (h : n ≤ m) : a.natAbs < 2 ^ m := Nat.lt_of_lt_of_le ha (Nat.pow_le_pow_right (by decide) h)
theorem Bd.add {n m : Nat} {x y : Rat} (hx : Bd n x) (hy : Bd m y) : Bd (n + m + 1) (x + y) := by
  rw [← rat_add]
  refine .divInt (dens_ne x y) (sum_lt (wide_lt hx.num (den_abs hy)) ?_) (up (wide_lt (den_abs hx) (den_abs hy)) (by omega))
  have := wide_lt hy.num (den_abs hx)
  rw [Nat.add_comm] at this
  exact this
theorem Bd.sub {n m : Nat} {x y : Rat} (hx : Bd n x) (hy : Bd m y) : Bd (n + m + 1) (x - y) := by
  rw [← rat_sub]
  refine .divInt (dens_ne x y) (sub_lt (wide_lt hx.num (den_abs hy)) ?_) (up (wide_lt (den_abs hx) (den_abs hy)) (by omega))
  have := wide_lt hy.num (den_abs hx)
  rw [Nat.add_comm] at this
  exact this
theorem Bd.mul {n m : Nat} {x y : Rat} (hx : Bd n x) (hy : Bd m y) : Bd (n + m) (x * y) := by
  rw [← rat_mul]
  exact .divInt (dens_ne x y) (wide_lt hx.num hy.num) (wide_lt (den_abs hx) (den_abs hy))
theorem Bd.div {n m : Nat} {x y : Rat} (hx : Bd n x) (hy : Bd m y) (h0 : y ≠ 0) : Bd (n + m) (x / y) := by
  rw [← rat_div]
  exact .divInt (Int.mul_ne_zero (den_ne x) (fun z => h0 (Rat.num_eq_zero.mp z))) (wide_lt hx.num (den_abs hy)) (wide_lt (den_abs hx) hy.num)
theorem log_of {a : Int} {n : Nat} (h0 : 0 < n) (h : a.natAbs < 2 ^ n) (h9 : n ≤ 9000) : a.natAbs.log2 < 9000 := Nat.lt_of_lt_of_le (PySem.Flt.log2_lt_of h0 h) h9
/-! ### sums over a common bottom -/
def lcmOn : Nat → List Rat → Nat
  | L, [] => L
  | L, q :: r => lcmOn (L * (q.den / Nat.gcd L q.den)) r
theorem lcmOn_pos : ∀ (qs : List Rat) (L : Nat), 0 < L → 0 < lcmOn L qs
  | [], _, h => h
  | q :: r, L, h => by
    refine lcmOn_pos r _ (Nat.mul_pos h (Nat.div_pos (Nat.le_of_dvd q.den_pos (Nat.gcd_dvd_right _ _)) (Nat.gcd_pos_of_pos_left _ h)))
theorem lcmOn_dvd : ∀ (qs : List Rat) (L : Nat), L ∣ lcmOn L qs
  | [], L => Nat.dvd_refl L
  | _ :: r, L => Nat.dvd_trans (Nat.dvd_mul_right L _) (lcmOn_dvd r _)
theorem den_dvd_step (L d : Nat) : d ∣ L * (d / Nat.gcd L d) := by
  rw [← Nat.mul_div_assoc _ (Nat.gcd_dvd_right L d)]
  exact Nat.dvd_lcm_right L d
theorem den_dvd_lcm : ∀ (qs : List Rat) (L : Nat) (q : Rat), q ∈ qs → q.den ∣ lcmOn L qs
  | x :: r, L, q, h => by
    rcases List.mem_cons.mp h with e | h
    · subst e
      exact Nat.dvd_trans (den_dvd_step L q.den) (lcmOn_dvd r _)
    · exact den_dvd_lcm r _ q h
theorem lcmOn_lt : ∀ (qs : List Rat) (L n a : Nat), (∀ q ∈ qs, q.den < 2 ^ n) → L < 2 ^ a → lcmOn L qs < 2 ^ (a + n * qs.length)
  | [], L, n, a, _, h => by simpa [lcmOn] using h
  | q :: r, L, n, a, hq, h => by
    have h1 : L * (q.den / Nat.gcd L q.den) < 2 ^ (a + n) := by
      rw [Nat.pow_add]
      exact Nat.lt_of_le_of_lt (Nat.mul_le_mul_left _ (Nat.div_le_self _ _)) (Nat.mul_lt_mul'' h (hq q List.mem_cons_self))
    have := lcmOn_lt r _ n (a + n) (fun x hx => hq x (List.mem_cons_of_mem _ hx)) h1
    rw [List.length_cons, Nat.mul_succ]
    rw [show a + (n * r.length + n) = a + n + n * r.length by omega]
    exact this
def rsum : List Rat → Rat
  | [] => 0
  | q :: r => q + rsum r
theorem rsum_append : ∀ (a b : List Rat), rsum (a ++ b) = rsum a + rsum b
  | [], b => (Rat.zero_add _).symm
  | q :: r, b => by
    show q + rsum (r ++ b) = q + rsum r + rsum b
    rw [rsum_append r b, Rat.add_assoc]
theorem divInt_add_same (a b d : Int) : Rat.divInt (a + b) d = Rat.divInt a d + Rat.divInt b d := by
  by_cases h : d = 0
  · subst h
    simp [Rat.zero_add]
  · rw [Rat.divInt_add_divInt _ _ h h, ← Int.add_mul, Rat.divInt_mul_right h]
def topsOf (L : Nat) (qs : List Rat) : List Int := qs.map fun q => q.num * ((L / q.den : Nat) : Int)
theorem tops_one {L : Nat} {q : Rat} (h0 : 0 < L) (hd : q.den ∣ L) : Rat.divInt (q.num * ((L / q.den : Nat) : Int)) (L : Int) = q := by
  obtain ⟨k, rfl⟩ := hd
  have hk : k ≠ 0 := fun z => by
    subst z
    simp at h0
  rw [Nat.mul_div_cancel_left _ q.den_pos, Int.natCast_mul, Rat.divInt_mul_right (by omega), Rat.num_divInt_den]
theorem tops_sum {L : Nat} (h0 : 0 < L) : ∀ (qs : List Rat), (∀ q ∈ qs, q.den ∣ L) → Rat.divInt (topsOf L qs).sum (L : Int) = rsum qs
  | [], _ => by simp [topsOf, rsum]
  | q :: r, h => by
    show Rat.divInt (q.num * ((L / q.den : Nat) : Int) + (topsOf L r).sum) (L : Int) = q + rsum r
    rw [divInt_add_same, tops_one h0 (h q List.mem_cons_self), tops_sum h0 r fun x hx => h x (List.mem_cons_of_mem _ hx)]
/-- n bounds each share, N their number -/
structure Few (n N : Nat) (qs : List Rat) : Prop where
  bd : ∀ q ∈ qs, Bd n q
  len : qs.length ≤ N
  small : n * N ≤ 8000
  most : N ≤ 999
  pos : 0 < n
/-! ### values that stand for a list of things -/
def AllAre {α : Type} (R : V → α → Prop) (vs : List V) (xs : List α) : Prop := vs.length = xs.length ∧ ∀ (i : Nat) (v : V) (x : α), vs[i]? = some v → xs[i]? = some x → R v x
theorem AllAre.nil {α : Type} {R : V → α → Prop} : AllAre R [] [] := ⟨rfl, fun i v x h => by simp at h⟩
theorem AllAre.at {α : Type} {R : V → α → Prop} {vs : List V} {xs : List α} {i : Nat} {v : V} (h : AllAre R vs xs) (e : vs[i]? = some v) : ∃ x, xs[i]? = some x ∧ R v x := by
  have hi : i < xs.length := by
    have := (List.getElem?_eq_some_iff.mp e).1
    rw [← h.1]
    exact this
  exact ⟨xs[i], List.getElem?_eq_getElem hi, h.2 i v _ e (List.getElem?_eq_getElem hi)⟩
theorem AllAre.imp {α : Type} {R R' : V → α → Prop} {vs : List V} {xs : List α} (h : AllAre R vs xs) (f : ∀ v x, R v x → R' v x) : AllAre R' vs xs := ⟨h.1, fun i v x a b => f _ _ (h.2 i v x a b)⟩
theorem AllAre.cons {α : Type} {R : V → α → Prop} {v : V} {x : α} {vs : List V} {xs : List α} (r : R v x) (h : AllAre R vs xs) : AllAre R (v :: vs) (x :: xs) := by
  refine ⟨by simp [h.1], fun i a b h1 h2 => ?_⟩
  cases i with
  | zero =>
    simp at h1 h2
    subst h1; subst h2
    exact r
  | succ i =>
    simp at h1 h2
    exact h.2 i a b h1 h2
theorem AllAre.append {α : Type} {R : V → α → Prop} : ∀ {vs us : List V} {xs ys : List α}, AllAre R vs xs → AllAre R us ys → AllAre R (vs ++ us) (xs ++ ys)
  | [], us, [], ys, _, h => h
  | v :: vs, us, x :: xs, ys, h, h' => by
    have t : AllAre R vs xs := ⟨by simpa using h.1, fun i a b h1 h2 => h.2 (i + 1) a b (by simpa using h1) (by simpa using h2)⟩
    exact .cons (h.2 0 v x rfl rfl) (t.append h')
  | [], _, _ :: _, _, h, _ => by simp [AllAre] at h
  | _ :: _, _, [], _, h, _ => by simp [AllAre] at h
theorem AllAre.snoc {α : Type} {R : V → α → Prop} {v : V} {x : α} {vs : List V} {xs : List α} (h : AllAre R vs xs) (r : R v x) : AllAre R (vs ++ [v]) (xs ++ [x]) := h.append (.cons r .nil)
theorem AllAre.take {α : Type} {R : V → α → Prop} {vs : List V} {xs : List α} (n : Nat) (h : AllAre R vs xs) : AllAre R (vs.take n) (xs.take n) := by
  refine ⟨by simp [h.1], fun i a b h1 h2 => ?_⟩
  rw [List.getElem?_take] at h1 h2
  split at h1
  · rw [if_pos (by assumption)] at h2
    exact h.2 i a b h1 h2
  · cases h1
theorem AllAre.drop {α : Type} {R : V → α → Prop} {vs : List V} {xs : List α} (n : Nat) (h : AllAre R vs xs) : AllAre R (vs.drop n) (xs.drop n) := by
  refine ⟨by simp [h.1], fun i a b h1 h2 => ?_⟩
  rw [List.getElem?_drop] at h1 h2
  exact h.2 _ a b h1 h2
theorem AllAre.reverse {α : Type} {R : V → α → Prop} {vs : List V} {xs : List α} (h : AllAre R vs xs) : AllAre R vs.reverse xs.reverse := by
  refine ⟨by simp [h.1], fun i a b h1 h2 => ?_⟩
  have l1 := (List.getElem?_eq_some_iff.mp h1).1
  have l2 := (List.getElem?_eq_some_iff.mp h2).1
  rw [List.length_reverse] at l1 l2
  rw [List.getElem?_reverse l1] at h1
  rw [List.getElem?_reverse l2, ← h.1] at h2
  exact h.2 _ a b h1 h2
/-- a list of shares -/
def IsShares (C : Addr) (H : Hp) (v : V) (qs : List Rat) : Prop := ∃ p vs, v = .ref p ∧ H p = some (.lst vs) ∧ AllAre (IsShare C H) vs qs
theorem IsShares.mono {C : Addr} {H H' : Hp} {v : V} {qs : List Rat} (h : IsShares C H v qs) (s : Same H H') : IsShares C H' v qs := by
  obtain ⟨p, vs, e, h, a⟩ := h
  exact ⟨p, vs, e, s _ _ h, a.imp fun _ _ r => r.mono s⟩
/-! ### comprehensions that only make -/
/-- [e for x in xs]: what is told of the i-th item is told of it to the end -/
theorem lc_all {K : PySem.W.Frag} {a : Addr} {xs : List V} {g : TG} {te : TE} {vs : List Nat} {σ : L2.St} {H1 : Hp} {D : Addr} {Qd : Hp → Prop} (R : Nat → V → Hp → Prop) (mono : ∀ i v H H', Same H H' → R i v H → R i v H')
    (hD : H1 D = none) (hS : SqL K H1 a xs) (hz : xs.length ≤ 1000)
    (hs : ∀ i x H (k : V → Hp → Prop), xs[i]? = some x → Same H1 (hid D H) → (∃ ys, H D = some (.lst ys)) → (∀ y H4, Same H H4 → R i y (hid D H4) → k y H4) → g x (wipe σ vs) H fun σ2 H2 => wipe σ2 vs = wipe σ vs ∧ te σ2 H2 k)
    (hd : ∀ H ys, Same H1 (hid D H) → H D = some (.lst ys) → ys.length = xs.length → (∀ i y, ys[i]? = some y → R i y (hid D H)) → Qd H) :
    ∃ W : Nat → Nat → Hp → Prop, (∃ m, W 0 m (upd H1 D (.lst []))) ∧ ∀ i m H, W i m H →
      ((Itl K a).stop i H ∧ Qd H) ∨ ((Itl K a).go i H ∧ ∃ Nx : Hp → Prop, (∀ H', Nx H' → ∃ m', m' < m ∧ W (i + 1) m' H') ∧ ∀ x H', (Itl K a).yld i H x H' → g x (wipe σ vs) H' fun σ2 H2 => wipe σ2 vs = wipe σ vs ∧ tYes σ2 H2 fun b H3 =>
        if b = true then te σ2 H3 fun y H4 => ∃ acc, H4 D = some (.lst acc) ∧ acc.length < sizeLine ∧ Nx (upd H4 D (.lst (acc ++ [y]))) else Nx H3) := by
  refine lc_list (xs := xs) (fun i H => ∃ ys, Same H1 (hid D H) ∧ H D = some (.lst ys) ∧ ys.length = i ∧ ∀ j y, ys[j]? = some y → R j y (hid D H)) ⟨[], ?_, upd_same, rfl, fun j y h => by simp at h⟩ (fun i H _ h => ?_) (fun i x H hx h => ?_) (fun H h => ?_)
  · intro b o e
    rw [hid_ne (ne_of_none e hD), upd_ne (ne_of_none e hD)]
    exact e
  · obtain ⟨ys, s, _⟩ := h
    exact (s.trans hid_same).seq hS
  · obtain ⟨ys, s, e, l, r⟩ := h
    have hi : i < xs.length := (List.getElem?_eq_some_iff.mp hx).1
    refine hs i x H (fun y H4 => ∃ acc, H4 D = some (.lst acc) ∧ acc.length < sizeLine ∧ ∃ ys, Same H1 (hid D (upd H4 D (.lst (acc ++ [y])))) ∧ (upd H4 D (.lst (acc ++ [y]))) D = some (.lst ys) ∧ ys.length = i + 1 ∧ ∀ j y', ys[j]? = some y' → R j y' (hid D (upd H4 D (.lst (acc ++ [y]))))) hx s ⟨_, e⟩ fun y H4 s4 ry => ?_
    refine ⟨ys, s4 _ _ e, small1000 (by omega), ys ++ [y], ?_, upd_same, by simp [l], fun j y' h => ?_⟩
    · rw [hid_upd]
      exact s.trans (hid_mono s4)
    · rw [hid_upd]
      by_cases hj : j < ys.length
      · rw [List.getElem?_append_left hj] at h
        exact mono _ _ _ _ (hid_mono s4) (r j y' h)
      · rw [List.getElem?_append_right (by omega)] at h
        have hj2 : j - ys.length = 0 := by
          have := (List.getElem?_eq_some_iff.mp h).1
          simp at this
          omega
        rw [hj2] at h
        simp at h
        subst h
        have : j = i := by omega
        rw [this]
        exact ry
  · obtain ⟨ys, s, e, l, r⟩ := h
    exact hd H ys s e l r
end Fb

/-! Part A3: the well of draws, pairs, equality of pairs. -/
namespace Fb
open PySem PySem.Spec PyProof.Rows L2
/-- the well at a, good for n draws more -/
def WellAt (H : Hp) (a : Addr) (n : Nat) : Prop := ∃ w0 w1 w2 : Int, H a = some (.lst [.int w0, .int w1, .int w2]) ∧ 0 ≤ w1 ∧ w1 < 2147483647 ∧ 0 ≤ w2 ∧ w2 + (n : Int) ≤ 1099511627776
theorem WellAt.mono {H : Hp} {a : Addr} {n m : Nat} (h : WellAt H a n) (l : m ≤ n) : WellAt H a m := by
  obtain ⟨w0, w1, w2, e, a1, a2, a3, a4⟩ := h
  exact ⟨w0, w1, w2, e, a1, a2, a3, by omega⟩
theorem WellAt.same {H H' : Hp} {a : Addr} {n : Nat} (h : WellAt H a n) (s : Same H H') : WellAt H' a n := by
  obtain ⟨w0, w1, w2, e, r⟩ := h
  exact ⟨w0, w1, w2, s _ _ e, r⟩
theorem WellAt.ne {H : Hp} {a p : Addr} {n : Nat} (h : WellAt H a n) (e : H p = none) : p ≠ a := by
  obtain ⟨w0, w1, w2, ea, _⟩ := h
  intro z
  rw [z, ea] at e
  cases e
/-- what the seven primes are -/
theorem primes7 {k : Int} (h0 : 0 ≤ k) (h7 : k < 7) : ∃ p : Int, atI [V.int 2147483647, V.int 2147483629, V.int 2147483587, V.int 2147483579, V.int 2147483563, V.int 2147483549, V.int 2147483543] k = some (.int p) ∧ 0 < p ∧ p < 2147483648 := by
  have : k = 0 ∨ k = 1 ∨ k = 2 ∨ k = 3 ∨ k = 4 ∨ k = 5 ∨ k = 6 := by omega
  rcases this with e | e | e | e | e | e | e <;> subst e <;> exact ⟨_, rfl, by decide, by decide⟩
theorem atI_get {α : Type} {xs : List α} {i : Int} (h0 : 0 ≤ i) (h : i < xs.length) : ∃ x, atI xs i = some x ∧ xs[i.toNat]? = some x := by
  have hl : i.toNat < xs.length := by omega
  have g := List.getElem?_eq_getElem hl
  have e : ((i.toNat : Nat) : Int) = i := by omega
  have q := atI_nat g
  rw [e] at q
  exact ⟨_, q, g⟩
/-- a share's two numbers, as a tuple -/
def IsTup2 (H : Hp) (v : V) (t b : Int) : Prop := ∃ p, v = .ref p ∧ H p = some (.tup [.int t, .int b])
theorem IsTup2.mono {H H' : Hp} {v : V} {t b : Int} (h : IsTup2 H v t b) (s : Same H H') : IsTup2 H' v t b := by
  obtain ⟨p, e, h⟩ := h
  exact ⟨p, e, s _ _ h⟩
theorem IsTup2.dp {K : PySem.W.Frag} {H : Hp} {v : V} {t b : Int} (h : IsTup2 H v t b) : Dp K H v (.tuple [.int t, .int b]) := by
  obtain ⟨p, rfl, h⟩ := h
  exact .tup (.inl (.inl h)) (.cons (.int _) (.cons (.int _) .nil))
theorem eqv_tup2 (a b c d : Int) : PyData.eqv (.tuple [.int a, .int b]) (.tuple [.int c, .int d]) = (a == c && b == d) := by
  simp [PyData.eqv, PyData.eqvAll]
theorem shaped2 (a b : Int) : SeqAt.shaped (.tuple [.int a, .int b]) = true := rfl
/-- objects of other kinds than the well's are not hidden with it -/
theorem hid_keep {H : Hp} {a p : Addr} {n : Nat} {o : HO} (w : WellAt H a n) (h : H p = some o) (ho : ∀ xs, o ≠ .lst xs) : hid a H p = some o := by
  obtain ⟨w0, w1, w2, e, _⟩ := w
  rw [hid_ne]
  · exact h
  · intro z
    rw [z, e] at h
    cases h
    exact ho _ rfl
theorem IsTup2.hid {H : Hp} {a : Addr} {n : Nat} {v : V} {t b : Int} (w : WellAt H a n) (h : IsTup2 H v t b) : IsTup2 (hid a H) v t b := by
  obtain ⟨p, e, h⟩ := h
  exact ⟨p, e, hid_keep w h (fun _ => nofun)⟩
theorem IsShare.hid {C : Addr} {H : Hp} {a : Addr} {n : Nat} {v : V} {q : Rat} (w : WellAt H a n) (h : IsShare C H v q) : IsShare C (hid a H) v q := by
  obtain ⟨p, dx, e, h⟩ := h
  exact ⟨p, dx, e, hid_keep w h (fun _ => nofun)⟩
theorem pow_small {i : Int} (h0 : 0 ≤ i) (h : i < 18446744073709551616) : CPow i 5 := ⟨by decide, by decide, by omega⟩
theorem log_pos {m : Int} (h0 : 0 < m) {n : Nat} (hn : 0 < n) (h9 : n ≤ 9000) (h : m < 2 ^ n) : CDivW 0 m := by
  refine ⟨h0, log_of hn ?_ h9⟩
  have : ((2 ^ n : Nat) : Int) = 2 ^ n := by simp
  omega
end Fb
namespace Fb
open PySem PySem.Spec PyProof.Rows L2
/-- a new object beside the well -/
theorem well_new {H : Hp} {a p : Addr} {n : Nat} {o : HO} (w : WellAt H a n) (np : H p = none) : WellAt (upd H p o) a n ∧ Same (hid a H) (hid a (upd H p o)) :=
  ⟨w.same (same_upd np), hid_mono (same_upd np)⟩
theorem sqL_hid {K : PySem.W.Frag} {H : Hp} {a p : Addr} {n : Nat} {xs : List V} (w : WellAt H a n) (np : H p = none) : SqL K (hid a (upd H p (.lst xs))) p xs := by
  rw [hid_updN (w.ne np)]
  exact sqL_new
theorem tup_hid {H : Hp} {a p : Addr} {n : Nat} {t b : Int} (w : WellAt H a n) (np : H p = none) : IsTup2 (hid a (upd H p (.tup [.int t, .int b]))) (.ref p) t b := by
  refine ⟨p, rfl, ?_⟩
  rw [hid_updN (w.ne np), upd_same]
theorem mem5 {α : Type} {a b c d e x : α} {i : Nat} (h : [a, b, c, d, e][i]? = some x) : x = a ∨ x = b ∨ x = c ∨ x = d ∨ x = e := by
  have := List.mem_of_getElem? h
  simpa using this
theorem mem4 {α : Type} {a b c d x : α} {i : Nat} (h : [a, b, c, d][i]? = some x) : x = a ∨ x = b ∨ x = c ∨ x = d := by
  have := List.mem_of_getElem? h
  simpa using this
theorem mem3 {α : Type} {a b c x : α} {i : Nat} (h : [a, b, c][i]? = some x) : x = a ∨ x = b ∨ x = c := by
  have := List.mem_of_getElem? h
  simpa using this
theorem divInt_self (q : Rat) : Rat.divInt q.num (q.den : Int) = q := Rat.num_divInt_den q
end Fb

/-! Part A4: comprehensions beside the well; the law's loop over its numbers. -/
namespace Fb
open PySem PySem.Spec PyProof.Rows L2
theorem hid2_upd {a D : Addr} {H : Hp} {o : HO} (h : D ≠ a) : hid D (hid a (upd H D o)) = hid D (hid a H) := by
  rw [hid_updN h, hid_upd]
theorem hid2_ne {a D : Addr} {H : Hp} (h : D ≠ a) : hid a H D = H D := hid_ne h
theorem WellAt.upd {H : Hp} {a D : Addr} {n : Nat} {o : HO} (w : WellAt H a n) (h : D ≠ a) : WellAt (L2.upd H D o) a n := by
  obtain ⟨w0, w1, w2, e, r⟩ := w
  exact ⟨w0, w1, w2, by rw [upd_ne h.symm]; exact e, r⟩
/-- [e for x in range(..)], each turn at most c draws: what is told of each item stays -/
theorem lc_wellR {lo : Int} {n : Nat} {g : TG} {te : TE} {vs : List Nat} {σ : L2.St} {H1 : Hp} {D a : Addr} {Qd : Hp → Prop} (R : V → Hp → Prop) (mono : ∀ v H H', Same H H' → R v H → R v H') (c f : Nat)
    (hD : H1 D = none) (hw : WellAt H1 a (f + c * n)) (hn : n ≤ 1000)
    (hs : ∀ i H m (k : V → Hp → Prop), i < n → WellAt H a (m + c) → Same (hid a H1) (hid D (hid a H)) → (∃ ys, H D = some (.lst ys)) → (∀ y H4, Same (hid a H) (hid a H4) → WellAt H4 a m → R y (hid D (hid a H4)) → k y H4) →
      g (.int (lo + i)) (wipe σ vs) H fun σ2 H2 => wipe σ2 vs = wipe σ vs ∧ te σ2 H2 k)
    (hd : ∀ H ys, Same (hid a H1) (hid D (hid a H)) → WellAt H a f → H D = some (.lst ys) → ys.length = n → (∀ y ∈ ys, R y (hid D (hid a H))) → Qd H) :
    ∃ W : Nat → Nat → Hp → Prop, (∃ m, W 0 m (upd H1 D (.lst []))) ∧ ∀ i m H, W i m H →
      ((Itr lo n).stop i H ∧ Qd H) ∨ ((Itr lo n).go i H ∧ ∃ Nx : Hp → Prop, (∀ H', Nx H' → ∃ m', m' < m ∧ W (i + 1) m' H') ∧ ∀ x H', (Itr lo n).yld i H x H' → g x (wipe σ vs) H' fun σ2 H2 => wipe σ2 vs = wipe σ vs ∧ tYes σ2 H2 fun b H3 =>
        if b = true then te σ2 H3 fun y H4 => ∃ acc, H4 D = some (.lst acc) ∧ acc.length < sizeLine ∧ Nx (upd H4 D (.lst (acc ++ [y]))) else Nx H3) := by
  have nD : D ≠ a := hw.ne hD
  refine lc_range (fun i H => ∃ ys, Same (hid a H1) (hid D (hid a H)) ∧ WellAt H a (f + c * (n - i)) ∧ H D = some (.lst ys) ∧ ys.length = i ∧ ∀ y ∈ ys, R y (hid D (hid a H))) ⟨[], ?_, hw.upd nD, upd_same, rfl, fun y h => by simp at h⟩ (fun i H hi h => ?_) (fun H h => ?_)
  · rw [hid2_upd nD]
    intro b o e
    have hb : b ≠ D := fun z => by
      rw [z, hid_ne nD, hD] at e
      cases e
    rw [hid_ne hb]
    exact e
  · obtain ⟨ys, s, w, e, l, r⟩ := h
    have ec : f + c * (n - i) = (f + c * (n - (i + 1))) + c := by
      have : n - i = (n - (i + 1)) + 1 := by omega
      rw [this, Nat.mul_succ]
      omega
    rw [ec] at w
    refine hs i H _ (fun y H4 => ∃ acc, H4 D = some (.lst acc) ∧ acc.length < sizeLine ∧ ∃ ys, Same (hid a H1) (hid D (hid a (upd H4 D (.lst (acc ++ [y]))))) ∧ WellAt (upd H4 D (.lst (acc ++ [y]))) a (f + c * (n - (i + 1))) ∧ (upd H4 D (.lst (acc ++ [y]))) D = some (.lst ys) ∧ ys.length = i + 1 ∧ ∀ y' ∈ ys, R y' (hid D (hid a (upd H4 D (.lst (acc ++ [y])))))) hi w s ⟨_, e⟩ fun y H4 s4 w4 ry => ?_
    have e4 : H4 D = some (.lst ys) := by
      have := s4 D (.lst ys) (by rw [hid_ne nD]; exact e)
      rw [hid_ne nD] at this
      exact this
    refine ⟨ys, e4, small1000 (by omega), ys ++ [y], ?_, w4.upd nD, upd_same, by simp [l], fun y' h => ?_⟩
    · rw [hid2_upd nD]
      exact s.trans (hid_mono s4)
    · rw [hid2_upd nD]
      rcases List.mem_append.mp h with h | h
      · exact mono _ _ _ (hid_mono s4) (r y' h)
      · have : y' = y := by simpa using h
        rw [this]
        exact ry
  · obtain ⟨ys, s, w, e, l, r⟩ := h
    rw [Nat.sub_self, Nat.mul_zero] at w
    exact hd H ys s w e l r
/-- what is no list is not hidden with a list -/
theorem hid_no {H : Hp} {D p : Addr} {o : HO} (e : ∃ ys, H D = some (.lst ys)) (h : H p = some o) (ho : ∀ xs, o ≠ .lst xs) : hid D H p = some o := by
  obtain ⟨ys, e⟩ := e
  rw [hid_ne]
  · exact h
  · intro z
    rw [z, e] at h
    cases h
    exact ho _ rfl
theorem IsTup2.hidL {H : Hp} {D : Addr} {v : V} {t b : Int} (e : ∃ ys, H D = some (.lst ys)) (h : IsTup2 H v t b) : IsTup2 (Fb.hid D H) v t b := by
  obtain ⟨p, rfl, h⟩ := h
  exact ⟨p, rfl, hid_no e h (fun _ => nofun)⟩
theorem IsShare.hidL {C : Addr} {H : Hp} {D : Addr} {v : V} {q : Rat} (e : ∃ ys, H D = some (.lst ys)) (h : IsShare C H v q) : IsShare C (Fb.hid D H) v q := by
  obtain ⟨p, dx, rfl, h⟩ := h
  exact ⟨p, dx, rfl, hid_no e h (fun _ => nofun)⟩
theorem allAre_of {α : Type} {R : V → α → Prop} : ∀ {ys : List V}, (∀ y ∈ ys, ∃ x, R y x) → ∃ xs, AllAre R ys xs
  | [], _ => ⟨[], .nil⟩
  | y :: ys, h => by
    obtain ⟨x, hx⟩ := h y List.mem_cons_self
    obtain ⟨xs, hxs⟩ := allAre_of (ys := ys) fun z hz => h z (List.mem_cons_of_mem _ hz)
    exact ⟨x :: xs, .cons hx hxs⟩
theorem AllAre.of_ix {α : Type} {R : V → α → Prop} {ys : List V} {xs : List α} (l : ys.length = xs.length) (h : ∀ (i : Nat) y, ys[i]? = some y → ∃ x, xs[i]? = some x ∧ R y x) : AllAre R ys xs := ⟨l, fun i v x a b => by
  obtain ⟨x', e, r⟩ := h i v a
  rw [e] at b
  cases b
  exact r⟩
theorem AllAre.mem {α : Type} {R : V → α → Prop} {ys : List V} {xs : List α} (h : AllAre R ys xs) {x : α} (hx : x ∈ xs) : ∃ y, R y x := by
  obtain ⟨i, hi, e⟩ := List.mem_iff_getElem.mp hx
  have hl : i < ys.length := by rw [h.1]; exact hi
  exact ⟨ys[i], h.2 i _ x (List.getElem?_eq_getElem hl) (by rw [List.getElem?_eq_getElem hi, e])⟩
theorem rsum_take {qs : List Rat} {i : Nat} {z : Rat} (h : qs[i]? = some z) : rsum (qs.take (i + 1)) = rsum (qs.take i) + z := by
  rw [List.take_add_one, h, rsum_append]
  show rsum (qs.take i) + (z + 0) = _
  rw [Rat.add_zero]
theorem rsum_bd {n : Nat} : ∀ {qs : List Rat}, (∀ q ∈ qs, Bd n q) → Bd ((n + 1) * qs.length + 1) (rsum qs)
  | [], _ => by
    rw [List.length_nil, Nat.mul_zero]
    exact ⟨by decide, by decide⟩
  | q :: r, h => by
    have h1 := (h q List.mem_cons_self).add (rsum_bd (qs := r) fun x hx => h x (List.mem_cons_of_mem _ hx))
    refine h1.mono ?_
    rw [List.length_cons, Nat.mul_succ]
    omega
/-- the law's numbers are whole numbers -/
theorem cells_int {ns : List Int} {lo hi : Option Int} {more : List Int} {i : Nat} {x : V} (h : (cutV (ns.map V.int) lo hi ++ more.map V.int)[i]? = some x) : ∃ z, x = .int z := by
  have m := List.mem_of_getElem? h
  rcases List.mem_append.mp m with m | m
  · have m2 : x ∈ ns.map V.int := by
      unfold cutV at m
      exact List.mem_of_mem_drop (List.mem_of_mem_take m)
    obtain ⟨z, _, e⟩ := List.mem_map.mp m2
    exact ⟨z, e.symm⟩
  · obtain ⟨z, _, e⟩ := List.mem_map.mp m
    exact ⟨z, e.symm⟩
/-- over a heap that has the well's address free, the hidden heap's facts are facts -/
theorem same_hid {H0 H : Hp} {a : Addr} (s : Same H0 (hid a H)) : Same H0 H := s.trans hid_same
/-! ### orders of fractions -/
theorem divInt_neg_iff {n m : Int} (hm : m ≠ 0) : Rat.divInt n m < 0 ↔ n * m < 0 := by
  have key : ∀ {n m : Int}, 0 < m → (Rat.divInt n m < 0 ↔ n * m < 0) := fun {n m} hm => by
    rw [← Rat.not_le, Rat.divInt_nonneg_iff_of_pos_right hm]
    constructor
    · intro h
      exact Int.mul_neg_of_neg_of_pos (by omega) hm
    · intro h z
      have := Int.mul_nonneg z (Int.le_of_lt hm)
      omega
  rcases Int.lt_or_gt_of_ne hm with h | h
  · have e : Rat.divInt n m = Rat.divInt (-n) (-m) := (Rat.neg_divInt_neg n m).symm
    rw [e, key (by omega), Int.neg_mul_neg]
  · exact key h
theorem lt_cross {a b c d : Int} (hb : b ≠ 0) (hd : d ≠ 0) : Rat.divInt a b < Rat.divInt c d ↔ (a * d - c * b) * b * d < 0 := by
  have e : Rat.divInt a b - Rat.divInt c d = Rat.divInt (a * d - c * b) (b * d) := Rat.divInt_sub_divInt a c hb hd
  rw [Int.mul_assoc, ← divInt_neg_iff (Int.mul_ne_zero hb hd), ← e, ← Rat.not_le, Rat.le_iff_sub_nonneg, Rat.not_le]
end Fb

/-! Part A5: rules for ==, != and str of an instance of the program's own class (own __eq__ and __str__, no own __ne__). -/
namespace Fb
open PySem PySem.Spec PyProof.Rows L2
section
variable {prog : Program} {w : World} {A : Around} {E : Value → Shared → Prop} {s : Shared} {K : PySem.W.Frag} {x C f L : Addr} {h0 : Heap} {m : Str → Option Value} {ox : Obj} {od : Option Obj} {b tb : Value}
theorem slot_object_ne : Slot "object" "__ne__" "object.__ne__" :=
  .of (owner := "object") (n := "__ne__") (by rw [typeLookup_type, builtinLookup_eq_fast]; kernel_rfl) (by decide +kernel) (by decide +kernel) (by decide +kernel)
    (by first | exact .inl (by decide +kernel) | exact .inr (by decide +kernel)) (by rw [isSubtype_type]; kernel_rfl)
/-- a special method that is a built-in slot, looked up as comparisons do -/
theorem ifBound_B {M : Model} {name : Str} {id : String} {args : List Value} {Q : Option Value → Shared → Prop} (X : K.In s.heap) (I : PySem.W.InstAt s.heap x ox C od) (hs : PySem.W.findIn K (.ref C) name = some (some (.builtin id)))
    (hb : ∀ self, bindSpecial (.builtin id) self = pure (.builtin id, [self]))
    (h : wpAny M A (call (.builtin id) (.ref x :: args)) (fun v => Q (some v)) E s) : wpAny M A (callSpecialIfBound? (.ref x) name args) Q E s := by
  simp only [callSpecialIfBound?, bindSpecialIfBound?]
  refine wpAny_holding (wpAny_bind (wpAny_bind (wpAny_bind (I.type.here ((PySem.W.looks_findIn X hs).here ?_)))))
  refine wpAny_bind (wpAny_askSetting (wpAny_ite ?_))
  have fin : wpAny M A (call (.builtin id) ([.ref x] ++ args) >>= fun v => pure (some v)) Q E s := wpAny_bind (wpAny_mono h (fun v s' h' => wpAny_pure h') fun _ _ h' => h')
  split
  · exact wpAny_bind ((PySem.W.Looks.of_pure (hb _)).here (wpAny_pure (by exact fin)))
  · exact wpAny_tryCatch (wpAny_bind ((PySem.W.Looks.of_pure (hb _)).here (wpAny_pure (by exact fin))))
theorem objNe_K {Q : Value → Shared → Prop} (hu : A.in1.units < cLine) (X : K.In s.heap) (I : PySem.W.InstAt s.heap x ox C od) (hm : PySem.W.mroIn K C (.type "object") = some true) (hs : PySem.W.findIn K (.ref C) "__eq__" = some (some (.ref f))) (hf : PySem.W.isFn K (.ref f) = true)
    (h : wpAny (model prog w) A.in1 (call (.ref f) [.ref x, b]) (fun v s' => ∃ r, v = .bool r ∧ Q (.bool (!r)) s') E s) : wpAny (model prog w) A (call (.builtin "object.__ne__") [.ref x, b]) Q E s := by
  refine wpAny_call (codeAny_call_builtin slot_object_ne.plain PySem.F.cmpEntry_ne (PySem.W.check_slot (i := "object.__ne__") (owner := "object") (n := "__ne__") (by decide +kernel) (by decide +kernel) (I.type.andThen (PySem.W.looks_mroIn X hm)) (PySem.F.cmpArgs_ne _ _) ?_))
  unfold Builtin.«object.__ne__»
  refine wpAny_bind (m := slotArgs "__ne__" 1 _) (wpAny_pure ?_)
  refine wpAny_bind (m := cRoomFor _ _) (wpAny_cRoomFor hu ?_)
  refine wpAny_bind (m := callSpecialIfBound? (.ref x) (Str.ofString "__eq__") _) (PySem.W.ifBound_K X I hs hf (wpAny_mono h (fun r s' hq => ?_) fun _ _ y => y))
  obtain ⟨r, rfl, q⟩ := hq
  exact wpAny_bind (wpAny_truthy_bool (wpAny_pure q))
theorem ne_K {Q : Value → Shared → Prop} (hu : A.units < cLine) (hu1 : A.in1.units < cLine) (F : PyProof.Rows.Fr h0 L s.heap m) (X₀ : K.In h0) (I : PySem.W.InstAt s.heap x ox C od) (hb : PySem.W.Looks (model prog w) s.heap (typeOf b) tb) (hn : PySem.W.notFirst K C tb = true)
    (hne : PySem.W.findIn K (.ref C) "__ne__" = some (some (.builtin "object.__ne__"))) (hm : PySem.W.mroIn K C (.type "object") = some true) (hs : PySem.W.findIn K (.ref C) "__eq__" = some (some (.ref f))) (hf : PySem.W.isFn K (.ref f) = true)
    (h : wpAny (model prog w) A.in1 (call (.ref f) [.ref x, b]) (fun v s' => ∃ r, v = .bool r ∧ Q (.bool (!r)) s') E s) : wpAny (model prog w) A (richCompare .NotEq (.ref x) b) Q E s := by
  have X := X₀.keeps F.keep
  have one : wpAny (model prog w) A (tryCompare (.ref x) (cmpInfo .NotEq).2.1 b) (fun r s' => ∃ v, r = some v ∧ Q v s') E s := by
    unfold tryCompare
    refine wpAny_bind (ifBound_B X I hne slot_object_ne.bind (objNe_K hu1 X I hm hs hf (wpAny_mono h (fun v s' hv => ?_) fun _ _ e => e)))
    obtain ⟨r, rfl, q⟩ := hv
    exact ⟨r, rfl, wpAny_pure ⟨_, rfl, q⟩⟩
  unfold richCompare
  simp only [oneThing_ref]
  refine wpAny_holding (wpAny_bind (wpAny_cRoomFor hu ?_))
  refine wpAny_bind (I.type.here (wpAny_bind (hb.here ?_)))
  split
  · rename_i q
    have e : PySem.W.subIn K tb (.ref C) = some false := by
      rcases Bool.or_eq_true_iff.mp hn with e | e
      · rw [beq_iff_eq.mp e] at q; simp at q
      · exact beq_iff_eq.mp e
    refine wpAny_bind ((PySem.W.looks_subIn X e).here ?_)
    simp only [Bool.false_eq_true, if_false]
    refine wpAny_bind (wpAny_mono one (fun r s' z => ?_) fun _ _ e => e)
    obtain ⟨v, rfl, hq⟩ := z
    exact wpAny_pure hq
  · refine wpAny_bind (wpAny_pure ?_)
    simp only [Bool.false_eq_true, if_false]
    refine wpAny_bind (wpAny_mono one (fun r s' z => ?_) fun _ _ e => e)
    obtain ⟨v, rfl, hq⟩ := z
    exact wpAny_pure hq
open Builtin Builtin.Str in
theorem str_K {Q : Value → Shared → Prop} (hu : A.in1.in1.units < cLine) (X : K.In s.heap) (I : PySem.W.InstAt s.heap x ox C od) (hs : PySem.W.findIn K (.ref C) "__str__" = some (some (.ref f))) (hf : PySem.W.isFn K (.ref f) = true)
    (h : wpAny (model prog w) A.in1.in1 (call (.ref f) [.ref x]) (PySem.W.StrBack Q) E s) : wpAny (model prog w) A (call (.type "str") [.ref x]) Q E s := by
  refine callType_codes (T := "str") (Bi := Builtin.«object.__init__») (Q₁ := fun r s₁ => ∃ y u, r = .str y u ∧ Q r s₁) PySem.F.called_str (PySem.F.typeCall_str_1 _) PySem.F.entry_object_init ?_ ?_
  · refine codeAny_of_tree ?_
    show wpAny _ A.in1.in1 (do checkBuiltinCall "str.__new__" ⟨[.type "str", .ref x], []⟩; again (.builtin "str.__new__" ⟨[.type "str", .ref x], []⟩)) _ _ s
    refine wpAny_bind (wpAny_of_eq (PySem.F.newCall_str_1 _) (wpAny_pure ⟨plainId_quiet (by decide +kernel) _, codeAny_builtin PySem.F.entry_str_new ?_⟩))
    rw [Around.under_plainId (by decide +kernel) _]
    rw [str_new_tree]
    refine wpAny_bind (wpAny_pure ?_)
    refine wpAny_bind (wpAny_of_eq isSubtype_str_str ?_)
    have key : wpAny (model prog w) A.in1.in1 (PySem.Builtin.Str.strOf (.ref x)) (fun r s₁ => ∃ y u, r = .str y u ∧ Q r s₁) E s := by
      unfold PySem.Builtin.Str.strOf
      rw [show isExactStr (.ref x) = false from rfl]
      refine wpAny_bind (m := cRoomFor _ _) (wpAny_cRoomFor hu ?_)
      refine wpAny_bind (m := callSpecial? (.ref x) (Str.ofString "__str__")) (PySem.W.special_fn X I hs (beq_iff_eq.mp hf) (wpAny_mono h (fun r s' z => ?_) fun _ _ y => y))
      cases r <;> first | exact z.elim | exact wpAny_pure ⟨_, _, rfl, z⟩
    exact wpAny_bind (wpAny_mono key (fun r s₁ hr => wpAny_pure hr) fun _ _ y => y)
  · rintro obj s₁ ⟨y, u, rfl, hq⟩
    exact ⟨typeIs_str _ _ _, PySem.F.args_object_init_2 _ _, object_init_meets PySem.F.called_str.init.lookup PySem.F.called_str.made (by decide) prog w A.in1 _ s₁ ⟨typeIs_str _ _ _, rfl, hq⟩⟩
end
section
variable {X : Cx} {k : Nat} {C f : Addr} {fd : FuncData} {ps : List Str} {sp : Sp}
/-- what is asked of the two: the first an instance of C, the second of a type that is no subclass -/
def rOwn2 (K : PySem.W.Frag) (C : Addr) (sp : Sp) (g : Bool → Bool) : R2 := fun x y H Q => ∃ a dx fs t, x = .ref a ∧ H a = some (.ins C dx fs) ∧ TyX K H y t ∧ PySem.W.notFirst K C t = true ∧ sp [x, y] H (fun v H' => ∃ r, v = .bl r ∧ Q (.bl (g r)) H') E0
theorem run_in {A : Around} {pins : List (Addr × Obj)} {σ : L2.St} {H : Hp} {s : Shared} {Q : VK} {us : List Value} {vs : List V} (F : FnOk X.prog X.w X.K X.mg X.base CX0 k f fd ps sp) (hr : Room k A) (he : Env0 X.prog X.w X.K X.mg X.base A X.stack s H) (hb : Binds X.K fd ps [])
    (I : Inv X pins σ H s) (r : Vals vs us) (h : sp vs H Q E0) : wpAny (model X.prog X.w) A (call (.ref f) us) (EP X pins σ Q) X.xe s := by
  have hl : (us ++ []).length = ps.length := by rw [List.append_nil, ← r.length]; exact F.len _ _ _ _ h
  have hbb := hb s us I.kIn hl
  rw [List.append_nil] at hbb
  refine wpAny_call (codeAny_mono (F.run A X.stack s H ⟨us, []⟩ us vs Q E0 hr he hbb r h) fun r s' hq => ?_)
  cases r with
  | error e => exact hq.elim
  | ok fl =>
    cases fl with
    | ret u => exact I.after hq
    | next => exact False.elim hq
    | brk => exact False.elim hq
    | cont => exact False.elim hq
theorem op_eqOwn (F : FnOk X.prog X.w X.K X.mg X.base CX0 k f fd ps sp) (hr : Room (k + 1) X.A) (hb : Binds X.K fd ps []) (hs : PySem.W.findIn X.K (.ref C) "__eq__" = some (some (.ref f))) (hf : PySem.W.isFn X.K (.ref f) = true) :
    OpR X (compareOp .Eq) (rOwn2 X.K C sp id) := by
  intro pins s σ H x y v u Q I rx ry h
  obtain ⟨a, dx, fs, t, rfl, ha, ty, hn, hsp⟩ := h
  cases rx
  obtain ⟨P, Z, p, _⟩ := kit_of I ry ty
  obtain ⟨mA, J, _⟩ := ins_get I.hok ha
  obtain ⟨od, J, _⟩ := J.look
  obtain ⟨m, hF⟩ := I.fr
  show wpAny (model X.prog X.w) X.A (richCompare .Eq (.ref a) u) (EP X pins σ Q) X.xe s
  refine PySem.W.cmp_K (op := .Eq) (tb := t) hr.units0 hF I.ok.mod.kin J (Z.ty _ _ I.kIn p) hn hs hf ?_
  refine wpAny_mono (run_in F (hr.mono (Nat.le_succ k)) I.env0 hb I (vs := [.ref a, y]) (.cons rfl (.cons ry .nil)) hsp) (fun r s' z => ?_) fun _ _ e => e
  obtain ⟨z1, H', I', rz, b, rfl, q⟩ := z
  cases rz
  exact ⟨.bl b, H', I', rfl, q⟩
theorem op_neOwn (F : FnOk X.prog X.w X.K X.mg X.base CX0 k f fd ps sp) (hr : Room (k + 1) X.A) (hb : Binds X.K fd ps []) (hs : PySem.W.findIn X.K (.ref C) "__eq__" = some (some (.ref f))) (hf : PySem.W.isFn X.K (.ref f) = true)
    (hne : PySem.W.findIn X.K (.ref C) "__ne__" = some (some (.builtin "object.__ne__"))) (hm : PySem.W.mroIn X.K C (.type "object") = some true) :
    OpR X (compareOp .NotEq) (rOwn2 X.K C sp not) := by
  intro pins s σ H x y v u Q I rx ry h
  obtain ⟨a, dx, fs, t, rfl, ha, ty, hn, hsp⟩ := h
  cases rx
  obtain ⟨P, Z, p, _⟩ := kit_of I ry ty
  obtain ⟨mA, J, _⟩ := ins_get I.hok ha
  obtain ⟨od, J, _⟩ := J.look
  obtain ⟨m, hF⟩ := I.fr
  show wpAny (model X.prog X.w) X.A (richCompare .NotEq (.ref a) u) (EP X pins σ Q) X.xe s
  refine ne_K (tb := t) hr.units0 hr.in1.units0 hF I.ok.mod.kin J (Z.ty _ _ I.kIn p) hn hne hm hs hf ?_
  refine wpAny_mono (run_in (A := X.A.in1) F hr.in1 I.env0.in1 hb I (vs := [.ref a, y]) (.cons rfl (.cons ry .nil)) hsp) (fun r s' z => ?_) fun _ _ e => e
  obtain ⟨z1, H', I', rz, b, rfl, q⟩ := z
  cases rz
  exact ⟨b, rfl, .bl (!b), H', I', rfl, q⟩
/-- str of an instance -/
theorem call_strOwn (F : FnOk X.prog X.w X.K X.mg X.base CX0 k f fd ps sp) (hr : Room (k + 2) X.A) (hb : Binds X.K fd ps []) (hs : PySem.W.findIn X.K (.ref C) "__str__" = some (some (.ref f))) (hf : PySem.W.isFn X.K (.ref f) = true) :
    CallR X (.type "str") (fun xs H Q => ∃ a dx fs, xs = [.ref a] ∧ H a = some (.ins C dx fs) ∧ sp [.ref a] H (fun v H' => ∃ z, v = .str z ∧ Q v H') E0) := by
  intro pins s σ H xs us Q I r h
  obtain ⟨a, dx, fs, rfl, ha, hsp⟩ := h
  obtain ⟨u, rfl, ru⟩ := vals1 r
  cases ru
  obtain ⟨mA, J, _⟩ := ins_get I.hok ha
  obtain ⟨od, J, _⟩ := J.look
  refine str_K hr.in1.in1.units0 I.kIn J hs hf ?_
  refine wpAny_mono (run_in (A := X.A.in1.in1) F hr.in1.in1 I.env0.in1.in1 hb I (vs := [.ref a]) (.cons rfl .nil) hsp) (fun r s' z => ?_) fun _ _ e => e
  obtain ⟨z1, H', I', rz, y, rfl, q⟩ := z
  obtain ⟨t, rfl⟩ := rz
  exact ⟨.str y, H', I', ⟨t, rfl⟩, q⟩
/-- the same with the written part named -/
theorem op_eqOwnK {K : PySem.W.Frag} (hK : X.K = K) (F : FnOk X.prog X.w X.K X.mg X.base CX0 k f fd ps sp) (hr : Room (k + 1) X.A) (hb : Binds X.K fd ps []) (hs : PySem.W.findIn X.K (.ref C) "__eq__" = some (some (.ref f))) (hf : PySem.W.isFn X.K (.ref f) = true) :
    OpR X (compareOp .Eq) (rOwn2 K C sp id) := hK ▸ op_eqOwn F hr hb hs hf
end
end Fb

namespace Fb
open PySem PySem.Spec PyProof.Rows L2
def topS (i : Nat) : Stmt := PySem.Challenge.pw_farbetween_k01_shares_made.main.body.getD i (.Pass ⟨0, 0, 0, 0⟩)
abbrev s_p_written : Stmt := topS 5
theorem sc_p_written : FnScope ["number", "piece", "pieces", "rest"] ["number"] (defScope s_p_written) := ⟨rfl, rfl, rfl, by decide +kernel, rfl, by decide +kernel, by decide +kernel⟩
abbrev s_p_is_whole : Stmt := topS 7
theorem sc_p_is_whole : FnScope ["thing"] ["thing"] (defScope s_p_is_whole) := ⟨rfl, rfl, rfl, by decide +kernel, rfl, by decide +kernel, by decide +kernel⟩
abbrev s_m_Share_init : Stmt := inClass (topS 9) 0
theorem sc_m_Share_init : FnScope ["self", "top", "bottom", "common"] ["self", "top", "bottom"] (defScope s_m_Share_init) := ⟨rfl, rfl, rfl, by decide +kernel, rfl, by decide +kernel, by decide +kernel⟩
abbrev s_m_Share_eq : Stmt := inClass (topS 9) 1
theorem sc_m_Share_eq : FnScope ["self", "other"] ["self", "other"] (defScope s_m_Share_eq) := ⟨rfl, rfl, rfl, by decide +kernel, rfl, by decide +kernel, by decide +kernel⟩
abbrev s_m_Share_str : Stmt := inClass (topS 9) 2
theorem sc_m_Share_str : FnScope ["self"] ["self"] (defScope s_m_Share_str) := ⟨rfl, rfl, rfl, by decide +kernel, rfl, by decide +kernel, by decide +kernel⟩
abbrev s_p_common_part : Stmt := topS 10
theorem sc_p_common_part : FnScope ["one", "other"] ["one", "other"] (defScope s_p_common_part) := ⟨rfl, rfl, rfl, by decide +kernel, rfl, by decide +kernel, by decide +kernel⟩
abbrev s_l_well : Stmt := topS 12
theorem sc_l_well : FnScope ["_law_cell"] ["_law_cell"] (defScope s_l_well) := ⟨rfl, rfl, rfl, by decide +kernel, rfl, by decide +kernel, by decide +kernel⟩
abbrev s_l_draw : Stmt := topS 13
theorem sc_l_draw : FnScope ["_law_well_here", "_law_many", "_law_digit", "_law_prime", "_law_number_here"] ["_law_well_here", "_law_many"] (defScope s_l_draw) := ⟨rfl, rfl, rfl, by decide +kernel, rfl, by decide +kernel, by decide +kernel⟩
abbrev s_l_one : Stmt := topS 14
theorem sc_l_one : FnScope ["_law_well_here", "_law_some"] ["_law_well_here", "_law_some"] (defScope s_l_one) := ⟨rfl, rfl, rfl, by decide +kernel, rfl, by decide +kernel, by decide +kernel⟩
abbrev s_l_low : Stmt := topS 15
theorem sc_l_low : FnScope ["_law_top", "_law_bottom", "_law_one_here", "_law_other"] ["_law_top", "_law_bottom"] (defScope s_l_low) := ⟨rfl, rfl, rfl, by decide +kernel, rfl, by decide +kernel, by decide +kernel⟩
abbrev s_l_pair : Stmt := topS 16
theorem sc_l_pair : FnScope ["_law_share"] ["_law_share"] (defScope s_l_pair) := ⟨rfl, rfl, rfl, by decide +kernel, rfl, by decide +kernel, by decide +kernel⟩
abbrev s_l_number : Stmt := topS 17
theorem sc_l_number : FnScope ["_law_well_here", "_law_most"] ["_law_well_here"] (defScope s_l_number) := ⟨rfl, rfl, rfl, by decide +kernel, rfl, by decide +kernel, by decide +kernel⟩
abbrev s_l_fraction : Stmt := topS 18
theorem sc_l_fraction : FnScope ["_law_well_here", "_law_top", "_law_bottom", "_law_by"] ["_law_well_here"] (defScope s_l_fraction) := ⟨rfl, rfl, rfl, by decide +kernel, rfl, by decide +kernel, by decide +kernel⟩
abbrev s_l_text : Stmt := topS 19
theorem sc_l_text : FnScope ["_law_pair_here"] ["_law_pair_here"] (defScope s_l_text) := ⟨rfl, rfl, rfl, by decide +kernel, rfl, by decide +kernel, by decide +kernel⟩
abbrev s_l_second : Stmt := topS 20
theorem sc_l_second : FnScope ["_law_well_here", "_law_pair_here", "_law_top", "_law_bottom", "_law_by", "_law_some"] ["_law_well_here", "_law_pair_here"] (defScope s_l_second) := ⟨rfl, rfl, rfl, by decide +kernel, rfl, by decide +kernel, by decide +kernel⟩
abbrev s_law : Stmt := topS 21
theorem sc_law : FnScope ["_law_script", "_law_cell", "_law_well_here", "_law_pair_here", "_law_other", "_law_one_here", "_law_two", "_law_share", "_law_due", "_law_same", "_law_whole", "_law_odd"] ["_law_script"] (defScope s_law) := ⟨rfl, rfl, rfl, by decide +kernel, rfl, by decide +kernel, by decide +kernel⟩
structure Txt (K : PySem.W.Frag) (mg : Str → Option Value) where
  c_FarError : Addr
  g_FarError : mg "FarError" = some (.ref c_FarError)
  c_NoShare : Addr
  g_NoShare : mg "NoShare" = some (.ref c_NoShare)
  c_Share : Addr
  g_Share : mg "Share" = some (.ref c_Share)
  f_p_written : Addr
  d_p_written : FuncData
  F_p_written : Fun K "written" "written" s_p_written f_p_written d_p_written
  b_p_written : Binds K d_p_written ["number"] []
  g_p_written : mg "written" = some (.ref f_p_written)
  f_p_is_whole : Addr
  d_p_is_whole : FuncData
  F_p_is_whole : Fun K "is_whole" "is_whole" s_p_is_whole f_p_is_whole d_p_is_whole
  b_p_is_whole : Binds K d_p_is_whole ["thing"] []
  g_p_is_whole : mg "is_whole" = some (.ref f_p_is_whole)
  f_m_Share_init : Addr
  d_m_Share_init : FuncData
  F_m_Share_init : FunD K "__init__" "Share.__init__" (defArgs s_m_Share_init) (defBody s_m_Share_init) (defScope s_m_Share_init) [.int 1] [] f_m_Share_init d_m_Share_init
  b_m_Share_init : Binds K d_m_Share_init ["self", "top", "bottom"] []
  e_m_Share_init : ∃ ds, Vals [.int 1] ds ∧ Binds K d_m_Share_init ["self", "top", "bottom"] ds
  f_m_Share_eq : Addr
  d_m_Share_eq : FuncData
  F_m_Share_eq : Fun K "__eq__" "Share.__eq__" s_m_Share_eq f_m_Share_eq d_m_Share_eq
  b_m_Share_eq : Binds K d_m_Share_eq ["self", "other"] []
  f_m_Share_str : Addr
  d_m_Share_str : FuncData
  F_m_Share_str : Fun K "__str__" "Share.__str__" s_m_Share_str f_m_Share_str d_m_Share_str
  b_m_Share_str : Binds K d_m_Share_str ["self"] []
  f_p_common_part : Addr
  d_p_common_part : FuncData
  F_p_common_part : Fun K "common_part" "common_part" s_p_common_part f_p_common_part d_p_common_part
  b_p_common_part : Binds K d_p_common_part ["one", "other"] []
  g_p_common_part : mg "common_part" = some (.ref f_p_common_part)
  f_l_well : Addr
  d_l_well : FuncData
  F_l_well : Fun K "_law_well" "_law_well" s_l_well f_l_well d_l_well
  b_l_well : Binds K d_l_well ["_law_cell"] []
  g_l_well : mg "_law_well" = some (.ref f_l_well)
  f_l_draw : Addr
  d_l_draw : FuncData
  F_l_draw : Fun K "_law_draw" "_law_draw" s_l_draw f_l_draw d_l_draw
  b_l_draw : Binds K d_l_draw ["_law_well_here", "_law_many"] []
  g_l_draw : mg "_law_draw" = some (.ref f_l_draw)
  f_l_one : Addr
  d_l_one : FuncData
  F_l_one : Fun K "_law_one" "_law_one" s_l_one f_l_one d_l_one
  b_l_one : Binds K d_l_one ["_law_well_here", "_law_some"] []
  g_l_one : mg "_law_one" = some (.ref f_l_one)
  f_l_low : Addr
  d_l_low : FuncData
  F_l_low : Fun K "_law_low" "_law_low" s_l_low f_l_low d_l_low
  b_l_low : Binds K d_l_low ["_law_top", "_law_bottom"] []
  g_l_low : mg "_law_low" = some (.ref f_l_low)
  f_l_pair : Addr
  d_l_pair : FuncData
  F_l_pair : Fun K "_law_pair" "_law_pair" s_l_pair f_l_pair d_l_pair
  b_l_pair : Binds K d_l_pair ["_law_share"] []
  g_l_pair : mg "_law_pair" = some (.ref f_l_pair)
  f_l_number : Addr
  d_l_number : FuncData
  F_l_number : Fun K "_law_number" "_law_number" s_l_number f_l_number d_l_number
  b_l_number : Binds K d_l_number ["_law_well_here"] []
  g_l_number : mg "_law_number" = some (.ref f_l_number)
  f_l_fraction : Addr
  d_l_fraction : FuncData
  F_l_fraction : Fun K "_law_fraction" "_law_fraction" s_l_fraction f_l_fraction d_l_fraction
  b_l_fraction : Binds K d_l_fraction ["_law_well_here"] []
  g_l_fraction : mg "_law_fraction" = some (.ref f_l_fraction)
  f_l_text : Addr
  d_l_text : FuncData
  F_l_text : Fun K "_law_text" "_law_text" s_l_text f_l_text d_l_text
  b_l_text : Binds K d_l_text ["_law_pair_here"] []
  g_l_text : mg "_law_text" = some (.ref f_l_text)
  f_l_second : Addr
  d_l_second : FuncData
  F_l_second : Fun K "_law_second" "_law_second" s_l_second f_l_second d_l_second
  b_l_second : Binds K d_l_second ["_law_well_here", "_law_pair_here"] []
  g_l_second : mg "_law_second" = some (.ref f_l_second)
  f_law : Addr
  d_law : FuncData
  F_law : Fun K "law" "law" s_law f_law d_law
  b_law : Binds K d_law ["_law_script"] []
  g_law : mg "law" = some (.ref f_law)
  cl_Share : Cls K c_Share
  M_Share : Mk K c_Share f_m_Share_init
  ti_Share : TyIns K c_Share
  n_Share_top : NoAttr K c_Share "top"
  n_Share_bottom : NoAttr K c_Share "bottom"
  h_m_Share_eq : Meth K c_Share "__eq__" f_m_Share_eq
  h_m_Share_str : Meth K c_Share "__str__" f_m_Share_str
  ne_Share : PySem.W.findIn K (.ref c_Share) "__ne__" = some (some (.builtin "object.__ne__"))
  nf_Share_int : PySem.W.notFirst K c_Share (.type "int") = true
  nf_Share_str : PySem.W.notFirst K c_Share (.type "str") = true
  nf_Share_NoneType : PySem.W.notFirst K c_Share (.type "NoneType") = true
  nf_Share_list : PySem.W.notFirst K c_Share (.type "list") = true
  nf_Share_tuple : PySem.W.notFirst K c_Share (.type "tuple") = true
  nf_Share_dict : PySem.W.notFirst K c_Share (.type "dict") = true
  nf_Share_bool : PySem.W.notFirst K c_Share (.type "bool") = true
  k_Share : PySem.W.kitOne K (.ref c_Share) (.ref c_Share) = some true
  k_Share_int : PySem.W.kitOne K (.type "int") (.ref c_Share) = some false
  k_Share_str : PySem.W.kitOne K (.type "str") (.ref c_Share) = some false
  k_Share_NoneType : PySem.W.kitOne K (.type "NoneType") (.ref c_Share) = some false
  k_Share_list : PySem.W.kitOne K (.type "list") (.ref c_Share) = some false
  k_Share_tuple : PySem.W.kitOne K (.type "tuple") (.ref c_Share) = some false
  k_Share_dict : PySem.W.kitOne K (.type "dict") (.ref c_Share) = some false
  k_Share_bool : PySem.W.kitOne K (.type "bool") (.ref c_Share) = some false
  u_PIECE_LENGTH : Value
  g_PIECE_LENGTH : mg "PIECE_LENGTH" = some u_PIECE_LENGTH
  r_PIECE_LENGTH : RelV (.int 64) u_PIECE_LENGTH
  z_divmod : mg "divmod" = none
  z_str : mg "str" = none
  z_isinstance : mg "isinstance" = none
  z_int : mg "int" = none
  z_bool : mg "bool" = none
  z_abs : mg "abs" = none
  z_len : mg "len" = none
  z_any : mg "any" = none
end Fb

namespace Fb
open PySem PySem.Spec PyProof.Rows L2
section
variable {P : Program} {w : World} {K : PySem.W.Frag} {mg : Str → Option Value} {base : Heap}
/-! ### is_whole, of whole numbers -/
def spWhole : Sp := fun vs H Q _ => ∃ i : Int, vs = [.int i] ∧ Q (.bl true) H
theorem ok_p_is_whole (T : Txt K mg) : FnOk P w K mg base CX0 1 T.f_p_is_whole T.d_p_is_whole ["thing"] spWhole := by
  refine T.F_p_is_whole.ok sc_p_is_whole (fun vs H Q E h => ?_) (fun cdv A outer s H vs Q E hr h => ?_)
  · obtain ⟨i, rfl, _⟩ := h
    rfl
  · obtain ⟨i, rfl, q⟩ := h
    refine ⟨_, (pss_one (ps_ret (pe_and (pe_callB call_isi (by rfl) T.z_isinstance (by decide +kernel) (pa_cons (pv 0) (pa_cons (pe_bltn (v := .ty "int") (by rfl) T.z_int (by decide +kernel) rfl) pa_nil))) (pe_one (pe_not (pe_callB call_isi (by rfl) T.z_isinstance (by decide +kernel) (pa_cons (pv 0) (pa_cons (pe_bltn (v := .ty "bool") (by rfl) T.z_bool (by decide +kernel) rfl) pa_nil)))))))), ?_⟩
    refine ⟨_, rfl, _, _, _, _, true, rfl, .ty _, .base (.int i), kit_ty (by decide +kernel), true, rfl, ?_⟩
    refine iteT ?_
    exact ⟨_, rfl, _, _, _, _, false, rfl, .ty _, .base (.int i), kit_ty (by decide +kernel), false, rfl, q⟩
/-! ### common_part -/
def spGcd : Sp := fun vs H Q _ => ∃ a b : Int, vs = [.int a, .int b] ∧ Q (.int (Int.gcd a b : Int)) H
theorem ok_p_common_part (T : Txt K mg) : FnOk P w K mg base CX0 1 T.f_p_common_part T.d_p_common_part ["one", "other"] spGcd := by
  refine T.F_p_common_part.ok sc_p_common_part (fun vs H Q E h => ?_) (fun cdv A outer s H vs Q E hr h => ?_)
  · obtain ⟨a, b, rfl, _⟩ := h
    rfl
  · obtain ⟨a, b, rfl, q⟩ := h
    refine ⟨_, (pss_cons (ps_while PassesOwn.never (pt_cmpR op_ne (pv 1) pe_int (nomark _))
  (pss_one (ps_par (i := 0) (j := 1) (by rfl) sc_p_common_part.nd rfl rfl (by decide) rfl rfl (pa_cons (pv 1) (pa_cons (pe_op op_modN (pv 0) (pv 1)) pa_nil)) (by rfl))))
 (pss_one (ps_ret (pe_callB call_abs (by rfl) T.z_abs (by decide +kernel) (pa_cons (pv 0) pa_nil))))), ?_⟩
    refine ⟨fun m σ H' => ∃ x y : Int, σ = [some (.int x), some (.int y)] ∧ m = y.natAbs ∧ Int.gcd x y = Int.gcd a b ∧ H' = H, ⟨_, a, b, rfl, rfl, rfl, rfl⟩, fun m σ H' hW => ?_⟩
    obtain ⟨x, y, rfl, rfl, hg, rfl⟩ := hW
    refine ⟨_, rfl, rfl, _, rfl, ?_⟩
    by_cases hy : y = 0
    · subst hy
      refine iteF ?_
      refine ⟨_, rfl, x, rfl, ?_⟩
      have e : (if x < 0 then -x else x) = (Int.gcd a b : Int) := by
        rw [← hg, Int.gcd_zero_right]
        split <;> omega
      rw [e]
      exact q
    · have ne : (!decide (V.int y = V.int 0)) = true := by
        rw [decide_eq_false (fun z => hy (V.int.inj z))]
        rfl
      rw [ne]
      refine iteT ?_
      refine ⟨fun σ' H'' => σ' = [some (.int y), some (.int (x.fmod y))] ∧ H'' = H', fun σ' H'' h => ?_, ?_⟩
      · obtain ⟨rfl, rfl⟩ := h
        exact ⟨_, fmod_lt x y hy, y, _, rfl, rfl, by rw [gcd_step, hg], rfl⟩
      · exact ⟨_, rfl, _, rfl, _, rfl, _, _, rfl, rfl, hy, _, _, rfl, rfl, rfl⟩
theorem log2_mono {a b : Nat} (h : a ≤ b) : a.log2 ≤ b.log2 := by
  by_cases ha : a = 0
  · subst ha
    simp
  · have hb : b ≠ 0 := by omega
    rw [Nat.le_log2 hb]
    exact Nat.le_trans (Nat.log2_self_le ha) h
theorem nat_abs {n m : Nat} (h : n < m) : (n : Int).natAbs < m := h
end

end Fb

namespace Fb
open PySem PySem.Spec PyProof.Rows L2
section
variable {P : Program} {w : World} {K : PySem.W.Frag} {mg : Str → Option Value} {base : Heap}
/-! ### Share(top, bottom) -/
def spShare (C : Addr) : Sp := fun vs H Q _ => ∃ (p dx : Addr) (t b : Int), vs = [.ref p, .int t, .int b] ∧ H p = some (.ins C dx []) ∧ b ≠ 0 ∧ b.natAbs.log2 < 9000 ∧
  ∀ H', (∀ a o, H a = some o → a ≠ p → H' a = some o) → H' p = some (.ins C dx (flds (Rat.divInt t b))) → Q .non H'
theorem ok_m_Share_init (T : Txt K mg) : FnOk P w K mg base CX0 2 T.f_m_Share_init T.d_m_Share_init ["self", "top", "bottom"] (spShare T.c_Share) := by
  refine T.F_m_Share_init.ok sc_m_Share_init (fun vs H Q E h => ?_) (fun cdv A outer s H vs Q E hr h => ?_)
  · obtain ⟨p, dx, t, b, rfl, _⟩ := h
    rfl
  · obtain ⟨p, dx, t, b, rfl, hp, hb, hl, q⟩ := h
    refine ⟨_, PSs.nox (pss_cons (ps_if (PW.pt (pw_or (pt_not (pt_val (pe_call (ok_p_is_whole T) (hr.mono (by decide)) (by rfl) T.g_p_is_whole T.F_p_is_whole.kp T.b_p_is_whole .nil pass0 (pa_cons (pv 1) pa_nil)))) (pw_or (pt_not (pt_val (pe_call (ok_p_is_whole T) (hr.mono (by decide)) (by rfl) T.g_p_is_whole T.F_p_is_whole.kp T.b_p_is_whole .nil pass0 (pa_cons (pv 2) pa_nil)))) (pw_or1 (pt_cmpR op_eq (pv 2) pe_int (nomark _))))))
  (pss_one ps_never)
  pss_nil)
 (pss_cons (ps_set (i := 3) sc_m_Share_init.nd rfl (.inl rfl) (pe_call (ok_p_common_part T) (hr.mono (by decide)) (by rfl) T.g_p_common_part T.F_p_common_part.kp T.b_p_common_part .nil pass0 (pa_cons (pv 1) (pa_cons (pv 2) pa_nil))))
 (pss_cons (ps_if (pt_cmpR op_lt (pv 2) pe_int (nomark _))
  (pss_one (ps_set (i := 3) sc_m_Share_init.nd rfl (.inl rfl) (pe_un un_neg (pv 3))))
  pss_nil)
 (pss_cons (ps_fld (pv 0) (pe_op op_fdivZ (pv 1) (pv 3)) rfl)
 (pss_one (ps_fld (pv 0) (pe_op op_fdivZ (pv 2) (pv 3)) rfl)))))), ?_⟩
    -- the test is false
    refine ⟨_, rfl, t, rfl, true, rfl, ?_⟩
    refine iteF ?_
    refine ⟨_, rfl, b, rfl, true, rfl, ?_⟩
    refine iteF ?_
    refine ⟨_, rfl, rfl, _, rfl, ?_⟩
    rw [decide_eq_false (fun z => hb (V.int.inj z))]
    refine iteF ?_
    -- common
    refine ⟨_, rfl, _, rfl, t, b, rfl, ?_⟩
    have fin : ∀ (c : Int), c = cut t b → (sFld K (tVar 0) (tOp (rI CDivZ fun i j => .int (i.fdiv j)) (tVar 1) (tVar 3)) "top") { nx := (sFld K (tVar 0) (tOp (rI CDivZ fun i j => .int (i.fdiv j)) (tVar 2) (tVar 3)) "bottom") { nx := fun _ H' => Q .non H', rt := Q }, rt := Q } [some (.ref p), some (.int t), some (.int b), some (.int c)] H := by
      intro c hc
      subst hc
      have hd : ∀ i, CDivZ i (cut t b) := fun _ => ⟨cut_ne hb, Nat.lt_of_le_of_lt (log2_mono (cut_le hb)) hl⟩
      refine ⟨_, rfl, _, rfl, _, _, rfl, rfl, hd _, _, rfl, p, T.c_Share, dx, [], rfl, hp, T.cl_Share, T.n_Share_top, (by show 0 < 1000; decide), ?_⟩
      refine ⟨_, rfl, _, rfl, _, _, rfl, rfl, hd _, _, rfl, p, T.c_Share, dx, _, rfl, upd_same, T.cl_Share, T.n_Share_bottom, (by show 1 < 1000; decide), ?_⟩
      refine q _ (fun a o e ne => ?_) ?_
      · rw [upd_ne ne, upd_ne ne]
        exact e
      · dsimp only
        rw [upd_same, cut_top hb, cut_bottom hb]
        rfl
    refine ⟨_, rfl, _, _, rfl, rfl, _, rfl, ite2 (fun h => ?_) (fun h => ?_)⟩
    · have h' : b < 0 := of_decide_eq_true h
      refine ⟨_, rfl, _, rfl, ?_⟩
      exact fin _ (by unfold cut; rw [if_pos h'])
    · have h' : ¬ b < 0 := fun z => h (decide_eq_true z)
      exact fin _ (by unfold cut; rw [if_neg h'])
/-- Share(t, b) as its caller sees it -/
theorem mk_share {C : Addr} {H : Hp} {t b : Int} {Q : Addr → Hp → Prop} {E : XK} (hb : b ≠ 0) (hl : b.natAbs.log2 < 9000) (q : ∀ H' r, Same H H' → IsShare C H' (.ref r) (Rat.divInt t b) → Q r H') :
    ∀ x dx, H x = none → H dx = none → dx ≠ x → spShare C (.ref x :: ([.int t, .int b] ++ [])) (upd (upd H dx (.own x)) x (.ins C dx [])) (fun v H2 => v = .non ∧ Q x H2) E := by
  intro x dx nx ndx ne
  refine ⟨x, dx, t, b, rfl, upd_same, hb, hl, fun H' k e => ⟨rfl, q H' x (fun a o ea => ?_) ⟨x, dx, rfl, e⟩⟩⟩
  have h1 : a ≠ x := ne_of_none ea nx
  refine k a o ?_ h1
  rw [upd_ne h1, upd_ne (ne_of_none ea ndx)]
  exact ea
end

end Fb

namespace Fb
open PySem PySem.Spec PyProof.Rows L2
section
variable {P : Program} {w : World} {K : PySem.W.Frag} {mg : Str → Option Value} {base : Heap}
/-! ### the class's own == -/
def spEq (K : PySem.W.Frag) (C : Addr) : Sp := fun vs H Q _ => ∃ (v u : V) (x : Rat), vs = [v, u] ∧ IsShare C H v x ∧
  ((∃ y : Rat, IsShare C H u y ∧ Q (.bl (decide (x = y))) H) ∨ ∃ t, TyX K H u t ∧ PySem.W.kitOne K t (.ref C) = some false ∧ Q (.bl false) H)
theorem tyShare (T : Txt K mg) {H : Hp} {p dx : Addr} {fs : List (Str × V)} (h : H p = some (.ins T.c_Share dx fs)) : TyX K H (.ref p) (.ref T.c_Share) :=
  .base (.ins h T.cl_Share T.ti_Share.ha T.ti_Share.hn T.ti_Share.htk T.ti_Share.hm)
theorem ok_m_Share_eq (T : Txt K mg) : FnOk P w K mg base CX0 1 T.f_m_Share_eq T.d_m_Share_eq ["self", "other"] (spEq K T.c_Share) := by
  refine T.F_m_Share_eq.ok sc_m_Share_eq (fun vs H Q E h => ?_) (fun cdv A outer s H vs Q E hr h => ?_)
  · obtain ⟨v, u, x, rfl, _⟩ := h
    rfl
  · obtain ⟨v, u, x, rfl, ⟨p, dx, rfl, hx⟩, h⟩ := h
    refine ⟨_, (pss_one (ps_ret (pe_and (pe_callB call_isi (by rfl) T.z_isinstance (by decide +kernel) (pa_cons (pv 1) (pa_cons (pe_glob (v := .ref T.c_Share) (by rfl) T.g_Share rfl) pa_nil))) (pe_and (pe_cmpR op_eq (pe_fld (pv 0) rfl) (pe_fld (pv 1) rfl) (nomark _)) (pe_one (pe_cmpR op_eq (pe_fld (pv 0) rfl) (pe_fld (pv 1) rfl) (nomark _))))))), ?_⟩
    rcases h with ⟨y, ⟨p', dx', rfl, hy⟩, q⟩ | ⟨t, ty, kt, q⟩
    · refine ⟨_, rfl, _, _, _, _, true, rfl, .own _, tyShare T hy, T.k_Share, true, rfl, iteT ?_⟩
      refine ⟨_, rfl, _, _, _, _, _, rfl, hx, T.cl_Share, T.n_Share_top, flds_top _, _, rfl, _, _, _, _, _, rfl, hy, T.cl_Share, T.n_Share_top, flds_top _, rfl, _, rfl, ?_⟩
      by_cases h1 : x.num = y.num
      · rw [h1, decide_eq_true rfl]
        refine iteT ?_
        refine ⟨_, rfl, _, _, _, _, _, rfl, hx, T.cl_Share, T.n_Share_bottom, flds_bottom _, _, rfl, _, _, _, _, _, rfl, hy, T.cl_Share, T.n_Share_bottom, flds_bottom _, rfl, ?_⟩
        have e : decide (V.int (x.den : Int) = V.int (y.den : Int)) = decide (x = y) := by
          refine decide_eq_decide.mpr ⟨fun z => ?_, fun z => by rw [z]⟩
          have z' : (x.den : Int) = (y.den : Int) := V.int.inj z
          exact Rat.ext h1 (by omega)
        rw [e]
        exact q
      · rw [decide_eq_false (fun z => h1 (V.int.inj z))]
        refine iteF ?_
        have e : decide (x = y) = false := decide_eq_false fun z => h1 (by rw [z])
        rw [e] at q
        exact q
    · exact ⟨_, rfl, _, _, _, _, false, rfl, .own _, ty, kt, false, rfl, iteF q⟩
/-- == or != of two shares -/
theorem eqS (T : Txt K mg) {H : Hp} {v u : V} {x y : Rat} {g : Bool → Bool} {Q : VK} (hx : IsShare T.c_Share H v x) (hy : IsShare T.c_Share H u y) (q : Q (.bl (g (decide (x = y)))) H) : rOwn2 K T.c_Share (spEq K T.c_Share) g v u H Q := by
  obtain ⟨p, dx, rfl, h⟩ := id hx
  obtain ⟨p', dx', rfl, h'⟩ := id hy
  exact ⟨p, dx, _, _, rfl, h, tyShare T h', by simp [PySem.W.notFirst], _, _, x, rfl, hx, .inl ⟨y, hy, _, rfl, q⟩⟩
/-- of a share and what is none -/
theorem eqN (T : Txt K mg) {H : Hp} {v u : V} {x : Rat} {t : Value} {g : Bool → Bool} {Q : VK} (hx : IsShare T.c_Share H v x) (ty : TyX K H u t) (nf : PySem.W.notFirst K T.c_Share t = true) (kt : PySem.W.kitOne K t (.ref T.c_Share) = some false) (q : Q (.bl (g false)) H) :
    rOwn2 K T.c_Share (spEq K T.c_Share) g v u H Q := by
  obtain ⟨p, dx, rfl, h⟩ := id hx
  exact ⟨p, dx, _, _, rfl, h, ty, nf, _, _, x, rfl, hx, .inr ⟨t, ty, kt, _, rfl, q⟩⟩
end

end Fb

namespace Fb
open PySem PySem.Spec PyProof.Rows L2
section
variable {P : Program} {w : World} {K : PySem.W.Frag} {mg : Str → Option Value} {base : Heap}
/-! ### the class's own text, numbers written by figures.written -/
def pairText (n d : Int) : Str := if d = 1 then Str.ofString (toString n) else Str.ofString (toString n) ++ Str.ofString "/" ++ Str.ofString (toString d)
def shareText (z : Rat) : Str := pairText z.num (z.den : Int)
theorem empty_app (a : Str) : Str.empty ++ a = a := by
  obtain ⟨a⟩ := a
  show (⟨#[] ++ a⟩ : Str) = ⟨a⟩
  simp
theorem len_app (a b : Str) : (a ++ b).length = a.length + b.length := by
  obtain ⟨a⟩ := a
  obtain ⟨b⟩ := b
  show (a ++ b).size = a.size + b.size
  simp
theorem text_len {i : Int} (h : i.natAbs.log2 < 1920) : (Str.ofString (toString i)).length ≤ 1921 := PyProof.Rows.int_text_len_1921 h
theorem line_ge {n : Nat} (h : n ≤ 10000) : n ≤ sizeLine := Nat.le_trans h (by decide)
theorem slash_len : (Str.ofString "/").length = 1 := by decide
theorem pss_never {X : Cx} {b : List Stmt} : PSs X b (fun _ _ _ => False) := ⟨fun _ _ _ _ _ _ h => h.elim⟩
theorem ofString_app (a b : String) : Str.ofString (a ++ b) = Str.ofString a ++ Str.ofString b := by
  rw [Str.ofString_eq_toList, Str.ofString_eq_toList, Str.ofString_eq_toList]
  show (⟨_⟩ : Str) = ⟨_⟩
  simp
theorem neg_text {n : Nat} (h : 0 < n) : Str.ofString "-" ++ Str.ofString (toString (n : Int)) = Str.ofString (toString (-(n : Int))) := by
  obtain ⟨k, rfl⟩ : ∃ k, n = k + 1 := ⟨n - 1, by omega⟩
  rw [← ofString_app]
  rfl
theorem join_one (a : Str) : Txt.join (Str.ofString "") [a] = a := by
  rw [TL.join_eq]
  rfl
theorem abs_log {i : Int} (h : i.natAbs < 2 ^ 210) : i.natAbs.log2 < 1920 := Nat.lt_trans (PySem.Flt.log2_lt_of (by decide) h) (by decide)
def spWrit1 : Sp := fun vs H Q _ => ∃ n : Nat, vs = [.int n] ∧ n < 2 ^ 210 ∧ ∀ H', Same H H' → Q (.str (Str.ofString (toString (n : Int)))) H'
theorem ok_p_written1 (T : Txt K mg) : FnOk P w K mg base CX0 1 T.f_p_written T.d_p_written ["number"] spWrit1 := by
  refine T.F_p_written.ok sc_p_written (fun vs H Q E h => ?_) (fun cdv A outer s H vs Q E hr h => ?_)
  · obtain ⟨n, rfl, _⟩ := h
    rfl
  · obtain ⟨n, rfl, hn, q⟩ := h
    refine ⟨_, (pss_cons (ps_if (pt_cmpR op_lt (pv 0) pe_int (nomark _)) pss_never pss_nil)
 (pss_cons (ps_set (i := 1) sc_p_written.nd rfl (.inl rfl) (pe_op op_pow pe_int pe_int))
 (pss_cons (ps_set (i := 2) sc_p_written.nd rfl (.inl rfl) (pe_lst pa_nil))
 (pss_cons (ps_while PassesOwn.never (pt_cmpR op_ge (pv 0) (pv 1) (nomark _)) pss_never)
 (pss_cons (ps_expr (pe_bm PySem.F.plainAttrs_list PySem.F.slot_list_append PySem.F.type_list_append mt_append (pv 2) (pa_cons (pe_callTy call_str_int (by rfl) T.z_str (by decide +kernel) (pa_cons (pv 0) pa_nil)) pa_nil)))
 (pss_one (ps_ret (pe_join pe_str (pe_revL (pv 2)))))))))), ?_⟩
    have lg := abs_log (i := (n : Int)) hn
    have tl := text_len lg
    refine ⟨_, rfl, _, _, rfl, rfl, _, rfl, ite2 (fun h => ?_) (fun h => ?_)⟩
    · have : (n : Int) < 0 := of_decide_eq_true h
      omega
    refine ⟨_, _, rfl, rfl, ⟨by decide, by decide, by decide⟩, ?_⟩
    refine ⟨Nat.zero_le _, fun p np => ?_⟩
    refine ⟨fun _ σ H' => σ = [some (.int n), some (.int (10 ^ 64)), some (.ref p), none] ∧ H' = upd H p (.lst []), ⟨0, rfl, rfl⟩, fun m σ H' hW => ?_⟩
    obtain ⟨rfl, rfl⟩ := hW
    refine ⟨_, rfl, _, rfl, _, _, rfl, rfl, _, rfl, ite2 (fun h => ?_) (fun h => ?_)⟩
    · have h1 : (10 : Int) ^ 64 ≤ (n : Int) := of_decide_eq_true h
      have h2 : (2 : Nat) ^ 210 < 10 ^ 64 := by decide
      omega
    have nz : (upd H p (.lst [])) p = some (.lst []) := upd_same
    refine ⟨_, rfl, .inl ⟨rfl, _, SqL.of nz⟩, _, rfl, _, rfl, lg, p, _, _, rfl, rfl, nz, small1000 (by decide), ?_⟩
    have s1 : Same H (upd (upd H p (.lst [])) p (.lst ([] ++ [.str (Str.ofString (toString (n : Int)))]))) := same_over (same_upd np) np
    have e1 : (upd (upd H p (.lst [])) p (.lst ([] ++ [.str (Str.ofString (toString (n : Int)))]))) p = some (.lst ([] ++ [.str (Str.ofString (toString (n : Int)))])) := upd_same
    generalize upd (upd H p (.lst [])) p (.lst ([] ++ [.str (Str.ofString (toString (n : Int)))])) = H1 at *
    refine ⟨⟨_, rfl⟩, _, rfl, p, _, rfl, SqL.of e1, fun c nc => ?_⟩
    have s2 := same_upd (o := .lst ([] ++ [V.str (Str.ofString (toString (n : Int)))]).reverse) nc
    refine ⟨_, c, [Str.ofString (toString (n : Int))], rfl, rfl, .inl (SqL.of upd_same), ?_, ?_⟩
    · show (Str.ofString (toString (n : Int))).length + 0 + 1 * 0 ≤ 16777216
      omega
    · rw [join_one]
      exact q _ (s1.trans s2)
def spWrit : Sp := fun vs H Q _ => ∃ i : Int, vs = [.int i] ∧ i.natAbs < 2 ^ 210 ∧ ∀ H', Same H H' → Q (.str (Str.ofString (toString i))) H'
theorem ok_p_written2 (T : Txt K mg) : FnOk P w K mg base CX0 2 T.f_p_written T.d_p_written ["number"] (fun vs H Q _ => ∃ n : Nat, vs = [.int (-(n : Int))] ∧ 0 < n ∧ n < 2 ^ 210 ∧ ∀ H', Same H H' → Q (.str (Str.ofString (toString (-(n : Int))))) H') := by
  refine T.F_p_written.ok sc_p_written (fun vs H Q E h => ?_) (fun cdv A outer s H vs Q E hr h => ?_)
  · obtain ⟨n, rfl, _⟩ := h
    rfl
  · obtain ⟨n, rfl, n0, hn, q⟩ := h
    refine ⟨_, (pss_cons (ps_if (pt_cmpR op_lt (pv 0) pe_int (nomark _)) (pss_one (ps_ret (pe_op op_add_str pe_str (pe_call (ok_p_written1 T) (hr.mono (by decide)) (by rfl) T.g_p_written T.F_p_written.kp T.b_p_written .nil pass0 (pa_cons (pe_un un_neg (pv 0)) pa_nil))))) pss_nil) pss_never), ?_⟩
    have lg := abs_log (i := (n : Int)) hn
    have tl := text_len lg
    refine ⟨_, rfl, _, _, rfl, rfl, _, rfl, ite2 (fun h => ?_) (fun h => ?_)⟩
    · refine ⟨_, rfl, _, rfl, n, (by show [V.int (- -(n : Int))] = _; rw [Int.neg_neg]), hn, fun H1 s1 => ?_⟩
      refine ⟨_, _, rfl, rfl, ?_, ?_⟩
      · have : (Str.ofString "-").length = 1 := by decide
        exact line_ge (by omega)
      · rw [neg_text n0]
        exact q _ s1
    · exact absurd (decide_eq_true (show -(n : Int) < 0 by omega)) h
theorem fnOr {CX : CXT} {k : Nat} {f : Addr} {fd : FuncData} {ps : List Str} {sp sp' : Sp} (F : FnOk P w K mg base CX k f fd ps sp) (G : FnOk P w K mg base CX k f fd ps sp') : FnOk P w K mg base CX k f fd ps (fun vs H Q E => sp vs H Q E ∨ sp' vs H Q E) :=
  ⟨fun vs H Q E h => h.elim (F.len vs H Q E) (G.len vs H Q E), fun A outer s H args us vs Q E hr he hb hv hs => hs.elim (F.run A outer s H args us vs Q E hr he hb hv) (G.run A outer s H args us vs Q E hr he hb hv)⟩
/-- what raises nothing may stand where something is raised -/
theorem ok_p_written (T : Txt K mg) : FnOk P w K mg base CX0 2 T.f_p_written T.d_p_written ["number"] spWrit :=
  (fnOr ((ok_p_written1 T).mono (by decide)) (ok_p_written2 T)).imp fun vs H Q E ⟨i, e, hi, q⟩ => by
    subst e
    rcases Int.natAbs_eq i with e | e
    · refine .inl ⟨i.natAbs, by rw [← e], hi, fun H' s => ?_⟩
      rw [← e]
      exact q H' s
    · by_cases h0 : 0 < i.natAbs
      · refine .inr ⟨i.natAbs, by rw [← e], h0, hi, fun H' s => ?_⟩
        rw [← e]
        exact q H' s
      · have : i = ((0 : Nat) : Int) := by omega
        exact .inl ⟨0, by rw [this], by decide, fun H' s => by rw [← this]; exact q H' s⟩
theorem bd_log {z : Rat} (h : Bd 1900 z) : z.num.natAbs.log2 < 1920 ∧ (z.den : Int).natAbs.log2 < 1920 :=
  ⟨Nat.lt_trans (PySem.Flt.log2_lt_of (by decide) h.num) (by decide), Nat.lt_trans (PySem.Flt.log2_lt_of (by decide) (den_abs h)) (by decide)⟩
def spStr (C : Addr) : Sp := fun vs H Q _ => ∃ (v : V) (z : Rat), vs = [v] ∧ IsShare C H v z ∧ Bd 210 z ∧ ∀ H', Same H H' → Q (.str (shareText z)) H'
theorem ok_m_Share_str (T : Txt K mg) : FnOk P w K mg base CX0 3 T.f_m_Share_str T.d_m_Share_str ["self"] (spStr T.c_Share) := by
  refine T.F_m_Share_str.ok sc_m_Share_str (fun vs H Q E h => ?_) (fun cdv A outer s H vs Q E hr h => ?_)
  · obtain ⟨v, z, rfl, _⟩ := h
    rfl
  · obtain ⟨v, z, rfl, ⟨p, dx, rfl, hx⟩, bz, q⟩ := h
    have a1 := bz.num
    have a2 := den_abs bz
    have l1 := abs_log a1
    have l2 := abs_log a2
    have t1 := text_len l1
    have t2 := text_len l2
    refine ⟨_, (pss_cons (ps_if (pt_cmpR op_eq (pe_fld (pv 0) rfl) pe_int (nomark _))
  (pss_one (ps_ret (pe_joined1 (pe_fmt (pe_call (ok_p_written T) (hr.mono (by decide)) (by rfl) T.g_p_written T.F_p_written.kp T.b_p_written .nil pass0 (pa_cons (pe_fld (pv 0) rfl) pa_nil))))))
  pss_nil)
 (pss_one (ps_ret (pe_joined (.cons (pe_fmt (pe_call (ok_p_written T) (hr.mono (by decide)) (by rfl) T.g_p_written T.F_p_written.kp T.b_p_written .nil pass0 (pa_cons (pe_fld (pv 0) rfl) pa_nil))) (.cons pe_str (.cons (pe_fmt (pe_call (ok_p_written T) (hr.mono (by decide)) (by rfl) T.g_p_written T.F_p_written.kp T.b_p_written .nil pass0 (pa_cons (pe_fld (pv 0) rfl) pa_nil))) .nil))))))), ?_⟩
    refine ⟨_, rfl, _, _, _, _, _, rfl, hx, T.cl_Share, T.n_Share_bottom, flds_bottom _, rfl, _, rfl, ite2 (fun h => ?_) (fun h => ?_)⟩
    · have h' : (z.den : Int) = 1 := V.int.inj (of_decide_eq_true h)
      refine ⟨_, rfl, _, _, _, _, _, rfl, hx, T.cl_Share, T.n_Share_top, flds_top _, _, rfl, a1, fun H1 s1 => .inl ⟨_, rfl, line_ge (by omega), ?_⟩⟩
      have q := q _ s1
      unfold shareText pairText at q
      rw [if_pos h'] at q
      exact q
    · have h' : ¬ (z.den : Int) = 1 := fun e => h (decide_eq_true (by rw [e]))
      refine ⟨_, rfl, _, _, _, _, _, rfl, hx, T.cl_Share, T.n_Share_top, flds_top _, _, rfl, a1, fun H1 s1 => .inl ⟨_, rfl, line_ge (by omega), _, rfl, ?_, ?_⟩⟩
      · rw [empty_app]
        exact line_ge (by omega)
      · refine ⟨_, rfl, ?_, ?_⟩
        · rw [empty_app, len_app]
          have := slash_len
          exact line_ge (by omega)
        · have hx1 := s1 _ _ hx
          refine ⟨_, rfl, _, _, _, _, _, rfl, hx1, T.cl_Share, T.n_Share_bottom, flds_bottom _, _, rfl, a2, fun H2 s2 => .inl ⟨_, rfl, line_ge (by omega), _, rfl, ?_, ?_⟩⟩
          · rw [empty_app, len_app, len_app]
            have := slash_len
            exact line_ge (by omega)
          · have q := q _ (s1.trans s2)
            unfold shareText pairText at q
            rw [if_neg h'] at q
            rw [empty_app]
            exact q
end

end Fb

namespace Fb
open PySem PySem.Spec PyProof.Rows L2
section
variable {P : Program} {w : World} {K : PySem.W.Frag} {mg : Str → Option Value} {base : Heap}
/-! ### the law's well -/
def spWell : Sp := fun vs H Q _ => ∃ c : Int, vs = [.int c] ∧ ∀ a H', H a = none → Same H (hid a H') → WellAt H' a 1099511627776 → Q (.ref a) H'
theorem ok_l_well (T : Txt K mg) : FnOk P w K mg base CX0 1 T.f_l_well T.d_l_well ["_law_cell"] spWell := by
  refine T.F_l_well.ok sc_l_well (fun vs H Q E h => ?_) (fun cdv A outer s H vs Q E hr h => ?_)
  · obtain ⟨c, rfl, _⟩ := h
    rfl
  · obtain ⟨c, rfl, q⟩ := h
    refine ⟨_, (pss_one (ps_ret (pe_lst (pa_cons (pe_op op_mul (pv 0) (pe_callTy call_int1 (by rfl) T.z_int (by decide +kernel) (pa_cons (pe_cmpR op_ge (pv 0) (pe_op op_pow pe_int pe_int) (nomark _)) pa_nil))) (pa_cons (pe_op op_mod (pv 0) pe_int) (pa_cons pe_int pa_nil)))))), ?_⟩
    refine ⟨_, rfl, _, rfl, _, _, rfl, rfl, ⟨by decide, by decide, by decide⟩, _, _, rfl, rfl, .inr ⟨_, rfl, _, _, rfl, rfl, ?_, _, rfl, _, _, rfl, rfl, (by show (0 : Int) < 2147483647; decide), ?_⟩⟩
    · right
      split <;> decide
    · refine ⟨by show 3 ≤ sizeLine; decide, fun p np => ?_⟩
      refine q p _ np (fun b o e => ?_) ⟨_, _, _, upd_same, Int.emod_nonneg _ (by decide), Int.emod_lt_of_pos _ (by decide), by decide, by decide⟩
      rw [hid_upd, hid_ne (ne_of_none e np)]
      exact e
def spDraw : Sp := fun vs H Q _ => ∃ (a : Addr) (m : Int) (n : Nat), vs = [.ref a, .int m] ∧ WellAt H a (n + 1) ∧ 0 < m ∧ m.natAbs.log2 < 9000 ∧
  ∀ d H', 0 ≤ d → d < m → Same (hid a H) (hid a H') → WellAt H' a n → Q (.int d) H'
theorem ok_l_draw (T : Txt K mg) : FnOk P w K mg base CX0 1 T.f_l_draw T.d_l_draw ["_law_well_here", "_law_many"] spDraw := by
  refine T.F_l_draw.ok sc_l_draw (fun vs H Q E h => ?_) (fun cdv A outer s H vs Q E hr h => ?_)
  · obtain ⟨a, m, n, rfl, _⟩ := h
    rfl
  · obtain ⟨a, m, n, rfl, ⟨w0, w1, w2, hw, b1, b2, b3, b4⟩, m0, ml, q⟩ := h
    refine ⟨_, (pss_cons (ps_if (pt_cmpR op_gt (pe_ix ix_list (pv 0) pe_int (fun _ _ => rfl)) pe_int (nomark _))
  (pss_cons (ps_set (i := 2) sc_l_draw.nd rfl (.inl rfl) (pe_op op_mod (pe_ix ix_list (pv 0) pe_int (fun _ _ => rfl)) (pv 1)))
 (pss_cons (ps_asg (pe_op op_fdivW (pe_ix ix_list (pv 0) pe_int (fun _ _ => rfl)) (pv 1)) (pg_sub (pv 0) pe_int set_list))
 (pss_one (ps_ret (pv 2)))))
  pss_nil)
 (pss_cons (ps_asg (pe_op op_add (pe_ix ix_list (pv 0) pe_int (fun _ _ => rfl)) pe_int) (pg_sub (pv 0) pe_int set_list))
 (pss_cons (ps_set (i := 3) sc_l_draw.nd rfl (.inl rfl) (pe_ix ix_list (pe_lst (pa_cons pe_int (pa_cons pe_int (pa_cons pe_int (pa_cons pe_int (pa_cons pe_int (pa_cons pe_int (pa_cons pe_int pa_nil)))))))) (pe_op op_mod (pe_ix ix_list (pv 0) pe_int (fun _ _ => rfl)) pe_int) (fun _ _ => rfl)))
 (pss_cons (ps_set (i := 4) sc_l_draw.nd rfl (.inl rfl) (pe_op op_mod (pe_op op_pow (pe_op op_add (pe_op op_add (pe_ix ix_list (pv 0) pe_int (fun _ _ => rfl)) (pe_op op_mul pe_int (pe_ix ix_list (pv 0) pe_int (fun _ _ => rfl)))) pe_int) pe_int) (pv 3)))
 (pss_cons (ps_set (i := 4) sc_l_draw.nd rfl (.inl rfl) (pe_op op_mod (pe_op op_mul (pe_op op_add (pv 4) (pe_ix ix_list (pv 0) pe_int (fun _ _ => rfl))) (pe_op op_add (pe_op op_fdiv (pv 4) pe_int) pe_int)) (pv 3)))
 (pss_one (ps_ret (pe_op op_mod (pe_op op_fdiv (pv 4) pe_int) (pv 1))))))))), ?_⟩
    refine ⟨_, rfl, a, _, _, _, rfl, rfl, SqL.of hw, atI_nat (j := 0) rfl, _, _, rfl, rfl, _, rfl, ite2 (fun h => ?_) (fun h => ?_)⟩
    · refine ⟨_, rfl, a, _, _, _, rfl, rfl, SqL.of hw, atI_nat (j := 0) rfl, _, rfl, _, _, rfl, rfl, m0, ?_⟩
      refine ⟨_, rfl, a, _, _, _, rfl, rfl, SqL.of hw, atI_nat (j := 0) rfl, _, rfl, _, _, rfl, rfl, ⟨m0, ml⟩, _, rfl, a, _, _, 0, rfl, rfl, hw, rfl, ?_⟩
      refine ⟨_, rfl, ?_⟩
      refine q _ _ (Int.emod_nonneg _ (by omega)) (Int.emod_lt_of_pos _ m0) ?_ ⟨_, _, _, upd_same, b1, b2, b3, by omega⟩
      rw [hid_upd]
      exact Same.refl _
    · refine ⟨_, rfl, a, _, _, _, rfl, rfl, SqL.of hw, atI_nat (j := 2) rfl, _, _, rfl, rfl, _, rfl, a, _, _, 2, rfl, rfl, hw, rfl, ?_⟩
      have hw2 : (upd H a (.lst [.int w0, .int w1, .int (w2 + 1)])) a = some (.lst [.int w0, .int w1, .int (w2 + 1)]) := upd_same
      refine ⟨by show 7 ≤ sizeLine; decide, fun p np => ?_⟩
      have npa : p ≠ a := fun z => by
        rw [z, upd_same] at np
        cases np
      have hw3 : (upd (upd H a (.lst [.int w0, .int w1, .int (w2 + 1)])) p (.lst [V.int 2147483647, V.int 2147483629, V.int 2147483587, V.int 2147483579, V.int 2147483563, V.int 2147483549, V.int 2147483543])) a = some (.lst [.int w0, .int w1, .int (w2 + 1)]) := by
        rw [upd_ne npa.symm]
        exact upd_same
      obtain ⟨pr, hpr, p0, p1⟩ := primes7 (k := (w2 + 1) % 7) (Int.emod_nonneg _ (by decide)) (Int.emod_lt_of_pos _ (by decide))
      refine ⟨_, rfl, a, _, _, _, rfl, rfl, SqL.of hw3, atI_nat (j := 2) rfl, _, _, rfl, rfl, (by show (0 : Int) < 7; decide), p, _, _, _, rfl, rfl, sqL_new, hpr, ?_⟩
      refine ⟨_, rfl, a, _, _, _, rfl, rfl, SqL.of hw3, atI_nat (j := 1) rfl, _, rfl, a, _, _, _, rfl, rfl, SqL.of hw3, atI_nat (j := 2) rfl, _, _, rfl, rfl, .inl ⟨by decide, by decide⟩, _, _, rfl, rfl, _, _, rfl, rfl, _, _, rfl, rfl, ?_, _, rfl, _, _, rfl, rfl, p0, ?_⟩
      · exact pow_small (by omega) (by omega)
      · generalize hx : (w1 + 7919 * (w2 + 1) + 1) ^ (5 : Int).toNat % pr = x
        have x0 : 0 ≤ x := by
          rw [← hx]
          exact Int.emod_nonneg _ (by omega)
        have x1 : x < pr := by
          rw [← hx]
          exact Int.emod_lt_of_pos _ p0
        refine ⟨_, rfl, _, rfl, a, _, _, _, rfl, rfl, SqL.of hw3, atI_nat (j := 2) rfl, _, _, rfl, rfl, _, rfl, _, _, rfl, rfl, ⟨by decide, by decide⟩, _, _, rfl, rfl, _, _, rfl, rfl, .inl ⟨by omega, by omega⟩, _, rfl, _, _, rfl, rfl, p0, ?_⟩
        refine ⟨_, rfl, _, _, rfl, rfl, ⟨by decide, by decide⟩, _, rfl, _, _, rfl, rfl, m0, ?_⟩
        refine q _ _ (Int.emod_nonneg _ (by omega)) (Int.emod_lt_of_pos _ m0) ?_ ⟨_, _, _, hw3, b1, b2, by omega, by omega⟩
        rw [hid_updN npa, hid_upd]
        refine same_upd ?_
        rw [hid_ne npa]
        rw [upd_ne npa] at np
        exact np
def spOne (K : PySem.W.Frag) : Sp := fun vs H Q _ => ∃ (a p : Addr) (xs : List V) (n : Nat), vs = [.ref a, .ref p] ∧ WellAt H a (n + 1) ∧ SqL K (hid a H) p xs ∧ 0 < xs.length ∧ xs.length ≤ 1000 ∧
  ∀ (i : Nat) x H', xs[i]? = some x → Same (hid a H) (hid a H') → WellAt H' a n → Q x H'
theorem log_small {m : Nat} (h : m ≤ 1000) : ((m : Int)).natAbs.log2 < 9000 := by
  have h1 : ((m : Int)).natAbs.log2 ≤ (1000 : Nat).log2 := log2_mono (by omega)
  have h2 : (1000 : Nat).log2 < 9000 := by decide
  omega
theorem ok_l_one (T : Txt K mg) : FnOk P w K mg base CX0 2 T.f_l_one T.d_l_one ["_law_well_here", "_law_some"] (spOne K) := by
  refine T.F_l_one.ok sc_l_one (fun vs H Q E h => ?_) (fun cdv A outer s H vs Q E hr h => ?_)
  · obtain ⟨a, p, xs, n, rfl, _⟩ := h
    rfl
  · obtain ⟨a, p, xs, n, rfl, hw, hS, l0, l1, q⟩ := h
    refine ⟨_, (pss_one (ps_ret (pe_ix ix_list (pv 1) (pe_call (ok_l_draw T) (hr.mono (by decide)) (by rfl) T.g_l_draw T.F_l_draw.kp T.b_l_draw .nil pass0 (pa_cons (pv 0) (pa_cons (pe_callB call_len_seq (by rfl) T.z_len (by decide +kernel) (pa_cons (pv 1) pa_nil)) pa_nil))) (fun _ _ => rfl)))), ?_⟩
    refine ⟨_, rfl, _, rfl, _, rfl, p, xs, rfl, .inl (hid_same.seq hS), a, _, n, rfl, hw, by omega, log_small l1, fun d H' d0 d1 s1 w1 => ?_⟩
    obtain ⟨x, e1, e2⟩ := atI_get d0 d1
    exact ⟨p, xs, d, x, rfl, rfl, (s1.trans hid_same).seq hS, e1, q _ x H' e2 s1 w1⟩
end

end Fb

namespace Fb
open PySem PySem.Spec PyProof.Rows L2
section
variable {P : Program} {w : World} {K : PySem.W.Frag} {mg : Str → Option Value} {base : Heap}
/-! ### the law's own lowest terms -/
def spLow : Sp := fun vs H Q _ => ∃ (t b : Int), vs = [.int t, .int b] ∧ b ≠ 0 ∧ b.natAbs.log2 < 9000 ∧
  ∀ H' r, Same H H' → IsTup2 H' r (Rat.divInt t b).num ((Rat.divInt t b).den : Int) → Q r H'
theorem ok_l_low (T : Txt K mg) : FnOk P w K mg base CX0 1 T.f_l_low T.d_l_low ["_law_top", "_law_bottom"] spLow := by
  refine T.F_l_low.ok sc_l_low (fun vs H Q E h => ?_) (fun cdv A outer s H vs Q E hr h => ?_)
  · obtain ⟨t, b, rfl, _⟩ := h
    rfl
  · obtain ⟨t, b, rfl, hb, hl, q⟩ := h
    refine ⟨_, (pss_cons (ps_par (i := 2) (j := 3) (by rfl) sc_l_low.nd rfl rfl (by decide) rfl rfl (pa_cons (pe_callB call_abs (by rfl) T.z_abs (by decide +kernel) (pa_cons (pv 0) pa_nil)) (pa_cons (pe_callB call_abs (by rfl) T.z_abs (by decide +kernel) (pa_cons (pv 1) pa_nil)) pa_nil)) (by rfl))
 (pss_cons (ps_while PassesOwn.never (pt_cmpR op_gt (pv 3) pe_int (nomark _))
  (pss_one (ps_par (i := 2) (j := 3) (by rfl) sc_l_low.nd rfl rfl (by decide) rfl rfl (pa_cons (pv 3) (pa_cons (pe_op op_mod (pv 2) (pv 3)) pa_nil)) (by rfl))))
 (pss_cons (ps_if (pt_cmpR op_lt (pv 1) pe_int (nomark _))
  (pss_one (ps_set (i := 2) sc_l_low.nd rfl (.inl rfl) (pe_op op_sub pe_int (pv 2))))
  pss_nil)
 (pss_one (ps_ret (pe_tup (pa_cons (pe_op op_fdivZ (pv 0) (pv 2)) (pa_cons (pe_op op_fdivZ (pv 1) (pv 2)) pa_nil)))))))), ?_⟩
    refine ⟨_, rfl, t, rfl, _, rfl, b, rfl, _, _, rfl, ?_⟩
    refine ⟨fun m σ H' => ∃ x y : Int, σ = [some (.int t), some (.int b), some (.int x), some (.int y)] ∧ m = y.toNat ∧ 0 ≤ x ∧ 0 ≤ y ∧ Int.gcd x y = Int.gcd t b ∧ H' = H, ⟨_, (if t < 0 then -t else t), (if b < 0 then -b else b), rfl, rfl, by split <;> omega, by split <;> omega, ?_, rfl⟩, fun m σ H' hW => ?_⟩
    · split <;> split <;> simp [Int.gcd_neg, Int.neg_gcd]
    · obtain ⟨x, y, rfl, rfl, x0, y0, hg, rfl⟩ := hW
      refine ⟨_, rfl, _, _, rfl, rfl, _, rfl, ite2 (fun h => ?_) (fun h => ?_)⟩
      · have hy : 0 < y := of_decide_eq_true h
        refine ⟨fun σ' H'' => σ' = [some (.int t), some (.int b), some (.int y), some (.int (x % y))] ∧ H'' = H', fun σ' H'' h => ?_, ?_⟩
        · obtain ⟨rfl, rfl⟩ := h
          have e1 := Int.emod_nonneg x (Int.ne_of_gt hy)
          have e2 := Int.emod_lt_of_pos x hy
          refine ⟨_, by omega, y, _, rfl, rfl, y0, e1, ?_, rfl⟩
          rw [← hg, ← gcd_step x y, Int.fmod_eq_emod_of_nonneg x y0]
        · exact ⟨_, rfl, _, rfl, _, rfl, _, _, rfl, rfl, hy, _, _, rfl, rfl, rfl⟩
      · have hy : y = 0 := by
          have : ¬ 0 < y := fun z => h (decide_eq_true z)
          omega
        subst hy
        have ex : x = (Int.gcd t b : Int) := by
          rw [← hg, Int.gcd_zero_right]
          omega
        have hd : ∀ i, CDivZ i (cut t b) := fun _ => ⟨cut_ne hb, Nat.lt_of_le_of_lt (log2_mono (cut_le hb)) hl⟩
        refine ⟨_, rfl, _, _, rfl, rfl, _, rfl, ite2 (fun h2 => ?_) (fun h2 => ?_)⟩
        · have h' : b < 0 := of_decide_eq_true h2
          have ec : 0 - x = cut t b := by
            unfold cut
            rw [if_pos h', ex]
            omega
          refine ⟨_, rfl, _, _, rfl, rfl, ?_⟩
          dsimp only
          rw [ec]
          refine ⟨_, rfl, _, rfl, _, _, rfl, rfl, hd _, _, rfl, _, rfl, _, _, rfl, rfl, hd _, by show 2 ≤ sizeLine; decide, fun p np => ?_⟩
          refine q _ _ (same_upd np) ⟨p, rfl, ?_⟩
          dsimp only
          rw [upd_same, cut_top hb, cut_bottom hb]
        · have h' : ¬ b < 0 := fun z => h2 (decide_eq_true z)
          have ec : x = cut t b := by
            unfold cut
            rw [if_neg h', ex]
          rw [ec]
          refine ⟨_, rfl, _, rfl, _, _, rfl, rfl, hd _, _, rfl, _, rfl, _, _, rfl, rfl, hd _, by show 2 ≤ sizeLine; decide, fun p np => ?_⟩
          refine q _ _ (same_upd np) ⟨p, rfl, ?_⟩
          dsimp only
          rw [upd_same, cut_top hb, cut_bottom hb]
end

end Fb

namespace Fb
open PySem PySem.Spec PyProof.Rows L2
section
variable {P : Program} {w : World} {K : PySem.W.Frag} {mg : Str → Option Value} {base : Heap}
/-! ### the law's look at a share -/
def spPair (C : Addr) : Sp := fun vs H Q _ => ∃ (v : V) (z : Rat), vs = [v] ∧ IsShare C H v z ∧ Bd 9000 z ∧ ∀ H' r, Same H H' → IsTup2 H' r z.num (z.den : Int) → Q r H'
theorem ok_l_pair (T : Txt K mg) : FnOk P w K mg base CX0 2 T.f_l_pair T.d_l_pair ["_law_share"] (spPair T.c_Share) := by
  refine T.F_l_pair.ok sc_l_pair (fun vs H Q E h => ?_) (fun cdv A outer s H vs Q E hr h => ?_)
  · obtain ⟨v, z, rfl, _⟩ := h
    rfl
  · obtain ⟨v, z, rfl, ⟨p, dx, rfl, hx⟩, bz, q⟩ := h
    refine ⟨_, (pss_cons (ps_if (PW.pt (pw_or (pt_not (pt_val (pe_callB call_isi (by rfl) T.z_isinstance (by decide +kernel) (pa_cons (pv 0) (pa_cons (pe_glob (v := .ref T.c_Share) (by rfl) T.g_Share rfl) pa_nil))))) (pw_or (pt_val (pe_callB call_isi (by rfl) T.z_isinstance (by decide +kernel) (pa_cons (pe_fld (pv 0) rfl) (pa_cons (pe_bltn (v := .ty "bool") (by rfl) T.z_bool (by decide +kernel) rfl) pa_nil)))) (pw_or1 (pt_val (pe_callB call_isi (by rfl) T.z_isinstance (by decide +kernel) (pa_cons (pe_fld (pv 0) rfl) (pa_cons (pe_bltn (v := .ty "bool") (by rfl) T.z_bool (by decide +kernel) rfl) pa_nil))))))))
  (pss_one (ps_ret (pe_tup (pa_cons pe_int (pa_cons pe_int pa_nil)))))
  pss_nil)
 (pss_cons (ps_if (PW.pt (pw_or (pt_not (pt_val (pe_callB call_isi (by rfl) T.z_isinstance (by decide +kernel) (pa_cons (pe_fld (pv 0) rfl) (pa_cons (pe_bltn (v := .ty "int") (by rfl) T.z_int (by decide +kernel) rfl) pa_nil))))) (pw_or (pt_not (pt_val (pe_callB call_isi (by rfl) T.z_isinstance (by decide +kernel) (pa_cons (pe_fld (pv 0) rfl) (pa_cons (pe_bltn (v := .ty "int") (by rfl) T.z_int (by decide +kernel) rfl) pa_nil))))) (pw_or1 (pt_cmpR op_lt (pe_fld (pv 0) rfl) pe_int (nomark _))))))
  (pss_one (ps_ret (pe_tup (pa_cons pe_int (pa_cons pe_int pa_nil)))))
  pss_nil)
 (pss_one (ps_ret (pe_ifExp (pt_cmpR (op_eqD hr.units) (pe_call (ok_l_low T) (hr.mono (by decide)) (by rfl) T.g_l_low T.F_l_low.kp T.b_l_low .nil pass0 (pa_cons (pe_fld (pv 0) rfl) (pa_cons (pe_fld (pv 0) rfl) pa_nil))) (pe_tup (pa_cons (pe_fld (pv 0) rfl) (pa_cons (pe_fld (pv 0) rfl) pa_nil))) (nomark _)) (pe_tup (pa_cons (pe_fld (pv 0) rfl) (pa_cons (pe_fld (pv 0) rfl) pa_nil))) (pe_tup (pa_cons pe_int (pa_cons pe_int pa_nil)))))))), ?_⟩
    refine ⟨_, rfl, _, _, _, _, true, rfl, .own _, tyShare T hx, T.k_Share, true, rfl, ?_⟩
    refine iteF ?_
    refine ⟨_, rfl, _, _, _, _, _, rfl, hx, T.cl_Share, T.n_Share_top, flds_top _, _, _, _, _, false, rfl, .ty _, .base (.int _), kit_ty (by decide +kernel), false, rfl, ?_⟩
    refine iteF ?_
    refine ⟨_, rfl, _, _, _, _, _, rfl, hx, T.cl_Share, T.n_Share_bottom, flds_bottom _, _, _, _, _, false, rfl, .ty _, .base (.int _), kit_ty (by decide +kernel), false, rfl, ?_⟩
    refine iteF ?_
    refine ⟨_, rfl, _, _, _, _, _, rfl, hx, T.cl_Share, T.n_Share_top, flds_top _, _, _, _, _, true, rfl, .ty _, .base (.int _), kit_ty (by decide +kernel), true, rfl, ?_⟩
    refine iteF ?_
    refine ⟨_, rfl, _, _, _, _, _, rfl, hx, T.cl_Share, T.n_Share_bottom, flds_bottom _, _, _, _, _, true, rfl, .ty _, .base (.int _), kit_ty (by decide +kernel), true, rfl, ?_⟩
    refine iteF ?_
    refine ⟨_, rfl, _, _, _, _, _, rfl, hx, T.cl_Share, T.n_Share_bottom, flds_bottom _, _, _, rfl, rfl, _, rfl, ?_⟩
    have e0 : decide ((z.den : Int) < 1) = false := decide_eq_false (by have := z.den_pos; omega)
    rw [e0]
    refine iteF ?_
    refine ⟨_, rfl, _, _, _, _, _, rfl, hx, T.cl_Share, T.n_Share_top, flds_top _, _, rfl, _, _, _, _, _, rfl, hx, T.cl_Share, T.n_Share_bottom, flds_bottom _, _, _, rfl, den_ne z, log_of (by decide) (den_abs bz) (by decide), fun H1 r s1 h1 => ?_⟩
    rw [divInt_self] at h1
    have hx1 := s1 _ _ hx
    refine ⟨_, rfl, _, _, _, _, _, rfl, hx1, T.cl_Share, T.n_Share_top, flds_top _, _, rfl, _, _, _, _, _, rfl, hx1, T.cl_Share, T.n_Share_bottom, flds_bottom _, by show 2 ≤ sizeLine; decide, fun p2 n2 => ?_⟩
    have s2 := same_upd (o := .tup [.int z.num, .int (z.den : Int)]) n2
    refine ⟨_, _, (h1.mono s2).dp, IsTup2.dp ⟨p2, rfl, upd_same⟩, rfl, rfl, true, ?_, ?_⟩
    · rw [eqv_tup2]
      simp
    · refine iteT ?_
      have hx2 := s2 _ _ hx1
      refine ⟨_, rfl, _, _, _, _, _, rfl, hx2, T.cl_Share, T.n_Share_top, flds_top _, _, rfl, _, _, _, _, _, rfl, hx2, T.cl_Share, T.n_Share_bottom, flds_bottom _, by show 2 ≤ sizeLine; decide, fun p3 n3 => ?_⟩
      exact q _ _ (s1.trans (s2.trans (same_upd n3))) ⟨p3, rfl, upd_same⟩
end

end Fb

namespace Fb
open PySem PySem.Spec PyProof.Rows L2
section
variable {P : Program} {w : World} {K : PySem.W.Frag} {mg : Str → Option Value} {base : Heap}
/-! ### drawn numbers and fractions -/
def spNumber : Sp := fun vs H Q _ => ∃ (a : Addr) (n : Nat), vs = [.ref a] ∧ WellAt H a (n + 3) ∧ ∀ z H', z.natAbs < 2 ^ 133 → Same (hid a H) (hid a H') → WellAt H' a n → Q (.int z) H'
theorem ok_l_number (T : Txt K mg) : FnOk P w K mg base CX0 3 T.f_l_number T.d_l_number ["_law_well_here"] spNumber := by
  refine T.F_l_number.ok sc_l_number (fun vs H Q E h => ?_) (fun cdv A outer s H vs Q E hr h => ?_)
  · obtain ⟨a, n, rfl, _⟩ := h
    rfl
  · obtain ⟨a, n, rfl, hw, q⟩ := h
    refine ⟨_, (pss_cons (ps_set (i := 1) sc_l_number.nd rfl (.inl rfl) (pe_call (ok_l_one T) (hr.mono (by decide)) (by rfl) T.g_l_one T.F_l_one.kp T.b_l_one .nil pass0 (pa_cons (pv 0) (pa_cons (pe_lst (pa_cons pe_int (pa_cons pe_int (pa_cons pe_int (pa_cons (pe_op op_pow pe_int pe_int) (pa_cons (pe_op op_pow pe_int pe_int) pa_nil)))))) pa_nil))))
 (pss_one (ps_ret (pe_op op_mulW (pe_call (ok_l_draw T) (hr.mono (by decide)) (by rfl) T.g_l_draw T.F_l_draw.kp T.b_l_draw .nil pass0 (pa_cons (pv 0) (pa_cons (pv 1) pa_nil))) (pe_call (ok_l_one T) (hr.mono (by decide)) (by rfl) T.g_l_one T.F_l_one.kp T.b_l_one .nil pass0 (pa_cons (pv 0) (pa_cons (pe_lst (pa_cons pe_int (pa_cons pe_int (pa_cons (pe_un un_neg pe_int) pa_nil)))) pa_nil))))))), ?_⟩
    refine ⟨_, rfl, _, _, rfl, rfl, ⟨by decide, by decide, by decide⟩, _, _, rfl, rfl, ⟨by decide, by decide, by decide⟩, by show 5 ≤ sizeLine; decide, fun p np => ?_⟩
    obtain ⟨w1, s1⟩ := well_new (o := .lst [.int 3, .int 12, .int 1000, .int (10 ^ (12 : Int).toNat), .int (10 ^ (40 : Int).toNat)]) hw np
    refine ⟨a, p, _, n + 2, rfl, w1, sqL_hid hw np, by decide, by decide, fun i x H2 hx s2 w2 => ?_⟩
    obtain ⟨m, rfl, m0, m1⟩ : ∃ m : Int, x = .int m ∧ 0 < m ∧ m ≤ 10 ^ 40 := by
      rcases mem5 hx with e | e | e | e | e <;> exact ⟨_, e, by decide, by decide⟩
    have ml : m.natAbs < 2 ^ 133 := by
      have : (10 : Int) ^ 40 < 2 ^ 133 := by decide
      omega
    refine ⟨_, rfl, _, rfl, a, m, n + 1, rfl, w2, m0, log_of (by decide) ml (by decide), fun d H3 d0 d1 s3 w3 => ?_⟩
    refine ⟨_, rfl, _, rfl, by show 3 ≤ sizeLine; decide, fun p4 n4 => ?_⟩
    obtain ⟨w4, s4⟩ := well_new (o := .lst [.int 1, .int 1, .int (-1)]) w3 n4
    refine ⟨a, p4, _, n, rfl, w4, sqL_hid w3 n4, by decide, by decide, fun j y H5 hy s5 w5 => ?_⟩
    obtain ⟨g, rfl, g1⟩ : ∃ g : Int, y = .int g ∧ (g = 1 ∨ g = -1) := by
      rcases mem3 hy with e | e | e
      · exact ⟨_, e, .inl rfl⟩
      · exact ⟨_, e, .inl rfl⟩
      · exact ⟨_, e, .inr rfl⟩
    have dl : d.natAbs < 2 ^ 133 := by omega
    have gl : g.natAbs < 2 ^ 1 := by
      rcases g1 with e | e <;> subst e <;> decide
    refine ⟨d, g, rfl, rfl, wide_mul dl gl (by decide) (by decide) (by decide), ?_⟩
    refine q _ H5 ?_ (s1.trans (s2.trans (s3.trans (s4.trans s5)))) w5
    rcases g1 with e | e <;> subst e
    · rw [Int.mul_one]
      exact dl
    · rw [Int.mul_neg, Int.mul_one, Int.natAbs_neg]
      exact dl
def spFraction : Sp := fun vs H Q _ => ∃ (a : Addr) (n : Nat), vs = [.ref a] ∧ WellAt H a (n + 7) ∧ ∀ t b v H', t.natAbs < 2 ^ 140 → b.natAbs < 2 ^ 140 → b ≠ 0 → Same (hid a H) (hid a H') → WellAt H' a n → IsTup2 (hid a H') v t b → Q v H'
theorem ok_l_fraction (T : Txt K mg) : FnOk P w K mg base CX0 4 T.f_l_fraction T.d_l_fraction ["_law_well_here"] spFraction := by
  refine T.F_l_fraction.ok sc_l_fraction (fun vs H Q E h => ?_) (fun cdv A outer s H vs Q E hr h => ?_)
  · obtain ⟨a, n, rfl, _⟩ := h
    rfl
  · obtain ⟨a, n, rfl, hw, q⟩ := h
    refine ⟨_, (pss_cons (ps_par (i := 1) (j := 2) (by rfl) sc_l_fraction.nd rfl rfl (by decide) rfl rfl (pa_cons (pe_call (ok_l_number T) (hr.mono (by decide)) (by rfl) T.g_l_number T.F_l_number.kp T.b_l_number .nil pass0 (pa_cons (pv 0) pa_nil)) (pa_cons (pe_call (ok_l_number T) (hr.mono (by decide)) (by rfl) T.g_l_number T.F_l_number.kp T.b_l_number .nil pass0 (pa_cons (pv 0) pa_nil)) pa_nil)) (by rfl))
 (pss_cons (ps_set (i := 3) sc_l_fraction.nd rfl (.inl rfl) (pe_call (ok_l_one T) (hr.mono (by decide)) (by rfl) T.g_l_one T.F_l_one.kp T.b_l_one .nil pass0 (pa_cons (pv 0) (pa_cons (pe_lst (pa_cons pe_int (pa_cons pe_int (pa_cons pe_int (pa_cons pe_int (pa_cons pe_int pa_nil)))))) pa_nil))))
 (pss_one (ps_ret (pe_tup (pa_cons (pe_op op_mulW (pv 1) (pv 3)) (pa_cons (pe_op op_mulW (pe_op op_add (pv 2) (pe_callTy call_int1 (by rfl) T.z_int (by decide +kernel) (pa_cons (pe_cmpR op_eq (pv 2) pe_int (nomark _)) pa_nil))) (pv 3)) pa_nil))))))), ?_⟩
    refine ⟨_, rfl, a, n + 4, rfl, hw, fun t H1 ht s1 w1 => ?_⟩
    refine ⟨_, rfl, a, n + 1, rfl, w1, fun b H2 hb s2 w2 => ?_⟩
    refine ⟨_, _, rfl, ?_⟩
    refine ⟨_, rfl, by show 5 ≤ sizeLine; decide, fun p np => ?_⟩
    obtain ⟨w3, s3⟩ := well_new (o := .lst [.int 1, .int 1, .int 2, .int 6, .int 35]) w2 np
    refine ⟨a, p, _, n, rfl, w3, sqL_hid w2 np, by decide, by decide, fun i x H4 hx s4 w4 => ?_⟩
    obtain ⟨m, rfl, m0, m1⟩ : ∃ m : Int, x = .int m ∧ 0 < m ∧ m ≤ 35 := by
      rcases mem5 hx with e | e | e | e | e <;> exact ⟨_, e, by decide, by decide⟩
    have ml : m.natAbs < 2 ^ 6 := by omega
    have key : ∀ k : Int, k = (if b = 0 then 1 else 0) → (b + k).natAbs < 2 ^ 134 ∧ b + k ≠ 0 := fun k hk => by
      subst hk
      split <;> omega
    refine ⟨_, rfl, _, rfl, _, _, rfl, rfl, wide_mul ht ml (by decide) (by decide) (by decide), _, rfl, _, rfl, rfl, .inr ⟨_, rfl, _, _, rfl, rfl, _, rfl, _, _, rfl, rfl, ?_, ?_⟩⟩
    · refine wide_mul (a := 134) (b := 6) (key _ ?_).1 ml (by decide) (by decide) (by decide)
      by_cases hb0 : b = 0
      · subst hb0
        rfl
      · rw [decide_eq_false (fun z => hb0 (V.int.inj z)), if_neg hb0]
        rfl
    · refine ⟨by show 2 ≤ sizeLine; decide, fun p5 n5 => ?_⟩
      have k2 := key (if decide (V.int b = V.int 0) = true then 1 else 0) (by
        by_cases hb0 : b = 0
        · subst hb0
          rfl
        · rw [decide_eq_false (fun z => hb0 (V.int.inj z)), if_neg hb0]
          rfl)
      obtain ⟨w5, s5⟩ := well_new (o := .tup [.int (t * m), .int ((b + (if decide (V.int b = V.int 0) = true then 1 else 0)) * m)]) w4 n5
      refine q _ _ _ _ ?_ (wide_lt k2.1 ml) (Int.mul_ne_zero k2.2 (Int.ne_of_gt m0)) (s1.trans (s2.trans (s3.trans (s4.trans s5)))) w5 (tup_hid w4 n5)
      exact up (wide_lt ht ml) (by decide)
end

end Fb

namespace Fb
open PySem PySem.Spec PyProof.Rows L2
section
variable {P : Program} {w : World} {K : PySem.W.Frag} {mg : Str → Option Value} {base : Heap}
/-! ### the text of a pair -/
def spText : Sp := fun vs H Q _ => ∃ (v : V) (n d : Int), vs = [v] ∧ IsTup2 H v n d ∧ n.natAbs.log2 < 1920 ∧ d.natAbs.log2 < 1920 ∧ Q (.str (pairText n d)) H
theorem ok_l_text (T : Txt K mg) : FnOk P w K mg base CX0 1 T.f_l_text T.d_l_text ["_law_pair_here"] spText := by
  refine T.F_l_text.ok sc_l_text (fun vs H Q E h => ?_) (fun cdv A outer s H vs Q E hr h => ?_)
  · obtain ⟨v, n, d, rfl, _⟩ := h
    rfl
  · obtain ⟨v, n, d, rfl, ⟨p, rfl, hp⟩, l1, l2, q⟩ := h
    refine ⟨_, (pss_cons (ps_if (pt_cmpR op_eq (pe_ix ix_tup (pv 0) pe_int (fun _ _ => rfl)) pe_int (nomark _))
  (pss_one (ps_ret (pe_callTy call_str_int (by rfl) T.z_str (by decide +kernel) (pa_cons (pe_ix ix_tup (pv 0) pe_int (fun _ _ => rfl)) pa_nil))))
  pss_nil)
 (pss_one (ps_ret (pe_op op_add_str (pe_op op_add_str (pe_callTy call_str_int (by rfl) T.z_str (by decide +kernel) (pa_cons (pe_ix ix_tup (pv 0) pe_int (fun _ _ => rfl)) pa_nil)) pe_str) (pe_callTy call_str_int (by rfl) T.z_str (by decide +kernel) (pa_cons (pe_ix ix_tup (pv 0) pe_int (fun _ _ => rfl)) pa_nil)))))), ?_⟩
    refine ⟨_, rfl, p, _, _, _, rfl, rfl, .inl (.inl hp), atI_nat (j := 1) rfl, rfl, _, rfl, ite2 (fun h => ?_) (fun h => ?_)⟩
    · have h' : d = 1 := V.int.inj (of_decide_eq_true h)
      refine ⟨_, rfl, p, _, _, _, rfl, rfl, .inl (.inl hp), atI_nat (j := 0) rfl, _, rfl, l1, ?_⟩
      unfold pairText at q
      rw [if_pos h'] at q
      exact q
    · have h' : ¬ d = 1 := fun e => h (decide_eq_true (by rw [e]))
      have t1 := text_len l1
      have t2 := text_len l2
      have := slash_len
      refine ⟨_, rfl, p, _, _, _, rfl, rfl, .inl (.inl hp), atI_nat (j := 0) rfl, _, rfl, l1, _, _, rfl, rfl, line_ge (by omega), _, rfl, p, _, _, _, rfl, rfl, .inl (.inl hp), atI_nat (j := 1) rfl, _, rfl, l2, _, _, rfl, rfl, ?_, ?_⟩
      · rw [len_app]
        exact line_ge (by omega)
      · unfold pairText at q
        rw [if_neg h'] at q
        exact q
/-! ### another pair -/
def spSecond : Sp := fun vs H Q _ => ∃ (a : Addr) (v : V) (t b : Int) (n : Nat), vs = [.ref a, v] ∧ WellAt H a (n + 9) ∧ IsTup2 (hid a H) v t b ∧ t.natAbs < 2 ^ 140 ∧ b.natAbs < 2 ^ 140 ∧ b ≠ 0 ∧
  ∀ t2 b2 v2 H', t2.natAbs < 2 ^ 210 → b2.natAbs < 2 ^ 210 → b2 ≠ 0 → Same (hid a H) (hid a H') → WellAt H' a n → IsTup2 (hid a H') v2 t2 b2 → Q v2 H'
theorem ok_l_second (T : Txt K mg) : FnOk P w K mg base CX0 5 T.f_l_second T.d_l_second ["_law_well_here", "_law_pair_here"] spSecond := by
  refine T.F_l_second.ok sc_l_second (fun vs H Q E h => ?_) (fun cdv A outer s H vs Q E hr h => ?_)
  · obtain ⟨a, v, t, b, n, rfl, _⟩ := h
    rfl
  · obtain ⟨a, v, t, b, n, rfl, hw, ⟨pq, rfl, hv⟩, lt, lb, hb, q⟩ := h
    refine ⟨_, (pss_cons (ps_asg (pv 1) (pg_tup (by rfl) (pgs_cons (pg_name (i := 2) sc_l_second.nd rfl (.inl rfl)) (pgs_cons (pg_name (i := 3) sc_l_second.nd rfl (.inl rfl)) pgs_nil))))
 (pss_cons (ps_set (i := 4) sc_l_second.nd rfl (.inl rfl) (pe_call (ok_l_one T) (hr.mono (by decide)) (by rfl) T.g_l_one T.F_l_one.kp T.b_l_one .nil pass0 (pa_cons (pv 0) (pa_cons (pe_lst (pa_cons pe_int (pa_cons (pe_un un_neg pe_int) (pa_cons pe_int (pa_cons (pe_op op_pow pe_int pe_int) pa_nil))))) pa_nil))))
 (pss_cons (ps_set (i := 5) sc_l_second.nd rfl (.inl rfl) (pe_lst (pa_cons (pe_tup (pa_cons (pe_op op_mulW (pv 2) (pv 4)) (pa_cons (pe_op op_mulW (pv 3) (pv 4)) pa_nil))) (pa_cons (pe_tup (pa_cons (pe_op op_add (pv 2) pe_int) (pa_cons (pv 3) pa_nil))) (pa_cons (pe_tup (pa_cons (pv 3) (pa_cons (pe_op op_add (pv 2) (pe_callTy call_int1 (by rfl) T.z_int (by decide +kernel) (pa_cons (pe_cmpR op_eq (pv 2) pe_int (nomark _)) pa_nil))) pa_nil))) (pa_cons (pe_tup (pa_cons (pe_op op_sub pe_int (pv 2)) (pa_cons (pv 3) pa_nil))) (pa_cons (pv 1) pa_nil)))))))
 (pss_one (ps_ret (pe_call (ok_l_one T) (hr.mono (by decide)) (by rfl) T.g_l_one T.F_l_one.kp T.b_l_one .nil pass0 (pa_cons (pv 0) (pa_cons (pe_op op_cat (pv 5) (pe_lst (pa_cons (pe_call (ok_l_fraction T) (hr.mono (by decide)) (by rfl) T.g_l_fraction T.F_l_fraction.kp T.b_l_fraction .nil pass0 (pa_cons (pv 0) pa_nil)) pa_nil))) pa_nil)))))))), ?_⟩
    refine ⟨_, rfl, pq, _, rfl, .inl (.inl (hid_same _ _ hv)), rfl, _, _, rfl, _, _, rfl, rfl, ?_⟩
    refine ⟨_, rfl, _, rfl, _, _, rfl, rfl, ⟨by decide, by decide, by decide⟩, by show 4 ≤ sizeLine; decide, fun p1 n1 => ?_⟩
    obtain ⟨w1, s1⟩ := well_new (o := .lst [.int 1, .int (-1), .int 7, .int (10 ^ (20 : Int).toNat)]) hw n1
    refine ⟨a, p1, _, n + 8, rfl, w1, sqL_hid hw n1, by decide, by decide, fun i x H2 hx s2 w2 => ?_⟩
    obtain ⟨m, rfl, m0, ml⟩ : ∃ m : Int, x = .int m ∧ m ≠ 0 ∧ m.natAbs < 2 ^ 67 := by
      rcases mem4 hx with e | e | e | e <;> exact ⟨_, e, by decide, by decide⟩
    have wm : ∀ {i : Int}, i.natAbs < 2 ^ 140 → CMulW i m := fun h => wide_mul h ml (by decide) (by decide) (by decide)
    refine ⟨_, rfl, _, rfl, _, _, rfl, rfl, wm lt, _, rfl, _, rfl, _, _, rfl, rfl, wm lb, by show 2 ≤ sizeLine; decide, fun p3 n3 => ?_⟩
    obtain ⟨w3, s3⟩ := well_new (o := .tup [.int (t * m), .int (b * m)]) w2 n3
    have i3 := tup_hid (t := t * m) (b := b * m) w2 n3
    refine ⟨_, rfl, _, _, rfl, rfl, _, rfl, by show 2 ≤ sizeLine; decide, fun p4 n4 => ?_⟩
    obtain ⟨w4, s4⟩ := well_new (o := .tup [.int (t + 1), .int b]) w3 n4
    have i4 := tup_hid (t := t + 1) (b := b) w3 n4
    refine ⟨_, rfl, _, rfl, _, rfl, rfl, .inr ⟨_, rfl, _, _, rfl, rfl, by show 2 ≤ sizeLine; decide, fun p5 n5 => ?_⟩⟩
    obtain ⟨w5, s5⟩ := well_new (o := .tup [.int b, .int (t + (if decide (V.int t = V.int 0) = true then 1 else 0))]) w4 n5
    have i5 := tup_hid (t := b) (b := t + (if decide (V.int t = V.int 0) = true then 1 else 0)) w4 n5
    have key : (t + (if decide (V.int t = V.int 0) = true then 1 else 0)).natAbs < 2 ^ 210 ∧ t + (if decide (V.int t = V.int 0) = true then 1 else 0) ≠ 0 := by
      by_cases ht : t = 0
      · subst ht
        exact ⟨by decide, by decide⟩
      · rw [decide_eq_false (fun z => ht (V.int.inj z)), if_neg Bool.false_ne_true, Int.add_zero]
        exact ⟨up lt (by decide), ht⟩
    refine ⟨_, rfl, _, _, rfl, rfl, _, rfl, by show 2 ≤ sizeLine; decide, fun p6 n6 => ?_⟩
    obtain ⟨w6, s6⟩ := well_new (o := .tup [.int (0 - t), .int b]) w5 n6
    have i6 := tup_hid (t := 0 - t) (b := b) w5 n6
    refine ⟨_, rfl, by show 5 ≤ sizeLine; decide, fun p7 n7 => ?_⟩
    obtain ⟨w7, s7⟩ := well_new (o := .lst [.ref p3, .ref p4, .ref p5, .ref p6, .ref pq]) w6 n7
    refine ⟨_, rfl, _, rfl, _, rfl, a, n + 1, rfl, w7, fun t8 b8 v8 H8 lt8 lb8 hb8 s8 w8 f8 => ?_⟩
    refine ⟨by show 1 ≤ sizeLine; decide, fun p9 n9 => ?_⟩
    obtain ⟨w9, s9⟩ := well_new (o := .lst [v8]) w8 n9
    have h7 : (hid a (upd H8 p9 (.lst [v8]))) p7 = some (.lst [.ref p3, .ref p4, .ref p5, .ref p6, .ref pq]) := by
      refine s9 _ _ (s8 _ _ ?_)
      rw [hid_ne (w6.ne n7), upd_same]
    refine ⟨p7, p9, _, _, rfl, rfl, hid_same _ _ h7, upd_same, by show 6 ≤ sizeLine; decide, fun p10 n10 => ?_⟩
    obtain ⟨w10, s10⟩ := well_new (o := .lst ([.ref p3, .ref p4, .ref p5, .ref p6, .ref pq] ++ [v8])) w9 n10
    refine ⟨a, p10, _, n, rfl, w10, sqL_hid w9 n10, by show 0 < 6; decide, by show 6 ≤ 1000; decide, fun j y H11 hy s11 w11 => ?_⟩
    have sE : Same (hid a H8) (hid a H11) := s9.trans (s10.trans s11)
    have s78 : Same (hid a (upd (upd (upd (upd H2 p3 (.tup [.int (t * m), .int (b * m)])) p4 (.tup [.int (t + 1), .int b])) p5 (.tup [.int b, .int (t + (if decide (V.int t = V.int 0) = true then 1 else 0))])) p6 (.tup [.int (0 - t), .int b]))) (hid a H11) := s7.trans (s8.trans sE)
    have sAll := s1.trans (s2.trans (s3.trans (s4.trans (s5.trans (s6.trans s78)))))
    have my : y = .ref p3 ∨ y = .ref p4 ∨ y = .ref p5 ∨ y = .ref p6 ∨ y = .ref pq ∨ y = v8 := by
      have := List.mem_of_getElem? hy
      simpa using this
    rcases my with e | e | e | e | e | e <;> subst e
    · exact q _ _ _ _ (up (wide_lt lt ml) (by decide)) (up (wide_lt lb ml) (by decide)) (Int.mul_ne_zero hb m0) sAll w11 (i3.mono (s4.trans (s5.trans (s6.trans s78))))
    · exact q _ _ _ _ (by omega) (up lb (by decide)) hb sAll w11 (i4.mono (s5.trans (s6.trans s78)))
    · exact q _ _ _ _ (up lb (by decide)) key.1 key.2 sAll w11 (i5.mono (s6.trans s78))
    · exact q _ _ _ _ (by omega) (up lb (by decide)) hb sAll w11 (i6.mono s78)
    · exact q t b _ _ (up lt (by decide)) (up lb (by decide)) hb sAll w11 ⟨pq, rfl, sAll _ _ hv⟩
    · exact q _ _ _ _ (up lt8 (by decide)) (up lb8 (by decide)) hb8 sAll w11 (f8.mono sE)
end

end Fb

namespace Fb
open PySem PySem.Spec PyProof.Rows L2
section
variable {P : Program} {w : World} {K : PySem.W.Frag} {mg : Str → Option Value} {base : Heap}
def spLaw (K : PySem.W.Frag) : Sp := fun vs H Q _ => ∃ (a : Addr) (ns : List Int), vs = [.ref a] ∧ SqL K H a (ns.map V.int) ∧ ns.length ≤ 63 ∧ ∀ H', Q (.bl true) H'
theorem cross_eq {t b c d : Int} (hb : b ≠ 0) (hd : d ≠ 0) : decide (Rat.divInt t b = Rat.divInt c d) = decide (V.int (t * d) = V.int (c * b)) :=
  decide_eq_decide.mpr ⟨fun h => by rw [(Rat.divInt_eq_divInt_iff hb hd).mp h], fun h => (Rat.divInt_eq_divInt_iff hb hd).mpr (V.int.inj h)⟩
theorem divInt_one (t : Int) : (Rat.divInt t 1).num = t ∧ (Rat.divInt t 1).den = 1 := by
  exact ⟨by rw [Rat.num_divInt]; simp, by rw [Rat.den_divInt]; simp⟩
theorem ok_law (T : Txt K mg) : FnOk P w K mg base CX0 12 T.f_law T.d_law ["_law_script"] (spLaw K) := by
  obtain ⟨ds, hds, bds⟩ := T.e_m_Share_init
  refine T.F_law.ok sc_law (fun vs H Q E h => ?_) (fun cdv A outer s H vs Q E hr h => ?_)
  · obtain ⟨a, ns, rfl, _⟩ := h
    rfl
  · obtain ⟨a, ns, rfl, hS, hlen, q⟩ := h
    refine ⟨_, (pss_cons (ps_for PassesOwn.never rfl (pi_list (pe_op op_cat (pe_slice sl_list (pv 0) po_none (po_some pe_int)) (pe_lst (pa_cons pe_int (pa_cons pe_int pa_nil))))) (pg_name (i := 1) sc_law.nd rfl (.inl rfl))
  (pss_cons (ps_set (i := 2) sc_law.nd rfl (.inl rfl) (pe_call (ok_l_well T) (hr.mono (by decide)) (by rfl) T.g_l_well T.F_l_well.kp T.b_l_well .nil pass0 (pa_cons (pv 1) pa_nil)))
 (pss_cons (ps_set (i := 3) sc_law.nd rfl (.inl rfl) (pe_call (ok_l_fraction T) (hr.mono (by decide)) (by rfl) T.g_l_fraction T.F_l_fraction.kp T.b_l_fraction .nil pass0 (pa_cons (pv 2) pa_nil)))
 (pss_cons (ps_set (i := 4) sc_law.nd rfl (.inl rfl) (pe_call (ok_l_second T) (hr.mono (by decide)) (by rfl) T.g_l_second T.F_l_second.kp T.b_l_second .nil pass0 (pa_cons (pv 2) (pa_cons (pv 3) pa_nil))))
 (pss_cons (ps_asg (pe_tup (pa_cons (pe_make T.M_Share (ok_m_Share_init T) (hr.mono (by decide)) (by rfl) T.g_Share T.b_m_Share_init .nil pass0 (pa_cons (pe_ix ix_tup (pv 3) pe_int (fun _ _ => rfl)) (pa_cons (pe_ix ix_tup (pv 3) pe_int (fun _ _ => rfl)) pa_nil))) (pa_cons (pe_make T.M_Share (ok_m_Share_init T) (hr.mono (by decide)) (by rfl) T.g_Share T.b_m_Share_init .nil pass0 (pa_cons (pe_ix ix_tup (pv 4) pe_int (fun _ _ => rfl)) (pa_cons (pe_ix ix_tup (pv 4) pe_int (fun _ _ => rfl)) pa_nil))) pa_nil))) (pg_tup (by rfl) (pgs_cons (pg_name (i := 5) sc_law.nd rfl (.inr rfl)) (pgs_cons (pg_name (i := 6) sc_law.nd rfl (.inl rfl)) pgs_nil))))
 (pss_cons (ps_for PassesOwn.never rfl (pi_list (pe_lst (pa_cons (pe_tup (pa_cons (pv 5) (pa_cons (pe_call (ok_l_low T) (hr.mono (by decide)) (by rfl) T.g_l_low T.F_l_low.kp T.b_l_low .nil pass0 (pa_cons (pe_ix ix_tup (pv 3) pe_int (fun _ _ => rfl)) (pa_cons (pe_ix ix_tup (pv 3) pe_int (fun _ _ => rfl)) pa_nil))) pa_nil))) (pa_cons (pe_tup (pa_cons (pv 6) (pa_cons (pe_call (ok_l_low T) (hr.mono (by decide)) (by rfl) T.g_l_low T.F_l_low.kp T.b_l_low .nil pass0 (pa_cons (pe_ix ix_tup (pv 4) pe_int (fun _ _ => rfl)) (pa_cons (pe_ix ix_tup (pv 4) pe_int (fun _ _ => rfl)) pa_nil))) pa_nil))) pa_nil)))) (pg_tup (by rfl) (pgs_cons (pg_name (i := 7) sc_law.nd rfl (.inl rfl)) (pgs_cons (pg_name (i := 8) sc_law.nd rfl (.inl rfl)) pgs_nil)))
  (pss_one (ps_if (PW.pt (pw_or (pt_cmpR (op_neD hr.units) (pe_call (ok_l_pair T) (hr.mono (by decide)) (by rfl) T.g_l_pair T.F_l_pair.kp T.b_l_pair .nil pass0 (pa_cons (pv 7) pa_nil)) (pv 8) (nomark _)) (pw_or1 (pt_cmpR op_ne (pe_callTy (call_strOwn (C := T.c_Share) (ok_m_Share_str T) (hr.mono (by decide)) T.b_m_Share_str T.h_m_Share_str.at_ T.h_m_Share_str.fn) (by rfl) T.z_str (by decide +kernel) (pa_cons (pv 7) pa_nil)) (pe_call (ok_l_text T) (hr.mono (by decide)) (by rfl) T.g_l_text T.F_l_text.kp T.b_l_text .nil pass0 (pa_cons (pv 8) pa_nil)) (nomark _)))))
  (pss_one (ps_ret pe_bl))
  pss_nil)))
 (pss_cons (ps_set (i := 9) sc_law.nd rfl (.inl rfl) (pe_cmpR op_eq (pe_op op_mulW (pe_ix ix_tup (pv 3) pe_int (fun _ _ => rfl)) (pe_ix ix_tup (pv 4) pe_int (fun _ _ => rfl))) (pe_op op_mulW (pe_ix ix_tup (pv 4) pe_int (fun _ _ => rfl)) (pe_ix ix_tup (pv 3) pe_int (fun _ _ => rfl))) (nomark _)))
 (pss_cons (ps_if (PW.pt (pw_or (pt_cmpR op_ne (pe_cmpR (op_eqOwn (C := T.c_Share) (ok_m_Share_eq T) (hr.mono (by decide)) T.b_m_Share_eq T.h_m_Share_eq.at_ T.h_m_Share_eq.fn) (pv 5) (pv 6) (nomark _)) (pv 9) (nomark _)) (pw_or (pt_cmpR op_ne (pe_cmpR (op_eqOwn (C := T.c_Share) (ok_m_Share_eq T) (hr.mono (by decide)) T.b_m_Share_eq T.h_m_Share_eq.at_ T.h_m_Share_eq.fn) (pv 6) (pv 5) (nomark _)) (pv 9) (nomark _)) (pw_or1 (pt_cmpR op_eq (pe_cmpR (op_neOwn (C := T.c_Share) (ok_m_Share_eq T) (hr.mono (by decide)) T.b_m_Share_eq T.h_m_Share_eq.at_ T.h_m_Share_eq.fn T.ne_Share T.ti_Share.hm) (pv 5) (pv 6) (nomark _)) (pv 9) (nomark _))))))
  (pss_one (ps_ret pe_bl))
  pss_nil)
 (pss_cons (ps_set (i := 10) sc_law.nd rfl (.inl rfl) (pe_make T.M_Share (ok_m_Share_init T) (hr.mono (by decide)) (by rfl) T.g_Share bds hds pass0 (pa_cons (pe_ix ix_tup (pv 3) pe_int (fun _ _ => rfl)) pa_nil)))
 (pss_cons (ps_if (PW.pt (pw_or (pt_cmpR (op_neD hr.units) (pe_call (ok_l_pair T) (hr.mono (by decide)) (by rfl) T.g_l_pair T.F_l_pair.kp T.b_l_pair .nil pass0 (pa_cons (pv 10) pa_nil)) (pe_tup (pa_cons (pe_ix ix_tup (pv 3) pe_int (fun _ _ => rfl)) (pa_cons pe_int pa_nil))) (nomark _)) (pw_or (pt_cmpR op_ne (pe_callTy (call_strOwn (C := T.c_Share) (ok_m_Share_str T) (hr.mono (by decide)) T.b_m_Share_str T.h_m_Share_str.at_ T.h_m_Share_str.fn) (by rfl) T.z_str (by decide +kernel) (pa_cons (pv 10) pa_nil)) (pe_callTy call_str_int (by rfl) T.z_str (by decide +kernel) (pa_cons (pe_ix ix_tup (pv 3) pe_int (fun _ _ => rfl)) pa_nil)) (nomark _)) (pw_or1 (pt_cmpR (op_neOwn (C := T.c_Share) (ok_m_Share_eq T) (hr.mono (by decide)) T.b_m_Share_eq T.h_m_Share_eq.at_ T.h_m_Share_eq.fn T.ne_Share T.ti_Share.hm) (pv 10) (pe_make T.M_Share (ok_m_Share_init T) (hr.mono (by decide)) (by rfl) T.g_Share T.b_m_Share_init .nil pass0 (pa_cons (pe_ix ix_tup (pv 3) pe_int (fun _ _ => rfl)) (pa_cons pe_int pa_nil))) (nomark _))))))
  (pss_one (ps_ret pe_bl))
  pss_nil)
 (pss_one (ps_if (pt_val (pe_callB (cr_any rfl) (by rfl) T.z_any (by decide +kernel) (pa_cons (pe_lc (own := [("_law_odd", 11)]) (g := (gName 11)) (tt := tYes) (by rfl) sc_law.nd (pi_list (pe_lst (pa_cons (pv 3) (pa_cons (pe_ix ix_tup (pv 3) pe_int (fun _ _ => rfl)) (pa_cons (pe_callTy (call_strOwn (C := T.c_Share) (ok_m_Share_str T) (hr.mono (by decide)) T.b_m_Share_str T.h_m_Share_str.at_ T.h_m_Share_str.fn) (by rfl) T.z_str (by decide +kernel) (pa_cons (pv 5) pa_nil)) (pa_cons pe_non (pa_cons (pe_lst (pa_cons (pv 5) pa_nil)) (pa_cons (pe_call (ok_l_low T) (hr.mono (by decide)) (by rfl) T.g_l_low T.F_l_low.kp T.b_l_low .nil pass0 (pa_cons (pe_ix ix_tup (pv 3) pe_int (fun _ _ => rfl)) (pa_cons (pe_ix ix_tup (pv 3) pe_int (fun _ _ => rfl)) pa_nil))) pa_nil)))))))) (blkOk_by (own := [("_law_odd", 11)]) (N := ["_law_script", "_law_cell", "_law_well_here", "_law_pair_here", "_law_other", "_law_one_here", "_law_two", "_law_share", "_law_due", "_law_same", "_law_whole", "_law_odd"]) (sc := defScope s_law) (by decide +kernel)) (fun _ _ _ _ _ => by exact (pg_name (i := 11) sc_law.nd rfl (.inl rfl))) (fun _ _ _ _ _ => by exact pts_nil) (fun _ _ _ _ _ => by exact (pe_cmpR (op_eqOwnK (K := K) rfl (C := T.c_Share) (ok_m_Share_eq T) (hr.mono (by decide)) T.b_m_Share_eq T.h_m_Share_eq.at_ T.h_m_Share_eq.fn) (pv 5) (pv 11) (nomark _)))) pa_nil)))
  (pss_one (ps_ret pe_bl))
  pss_nil))))))))))))
 (pss_one (ps_ret pe_bl))), ?_⟩
    refine ⟨_, rfl, 10, rfl, a, _, rfl, hS, fun c1 n1 => ?_⟩
    refine ⟨by show 2 ≤ sizeLine; decide, fun c2 n2 => ?_⟩
    have ne12 : c1 ≠ c2 := fun z => by
      rw [← z, upd_same] at n2
      cases n2
    refine ⟨c1, c2, _, _, rfl, rfl, by rw [upd_ne ne12]; exact upd_same, upd_same, ?_, fun c3 n3 => ?_⟩
    · have := cutV_length (ns.map V.int) none (some 10)
      rw [List.length_map] at this
      exact Nat.le_of_lt (small1000 (by show _ + 2 ≤ 1000; omega))
    generalize hH0 : upd (upd (upd H c1 (.lst (cutV (ns.map V.int) none (some 10)))) c2 (.lst [.int 0, .int 1])) c3 (.lst (cutV (ns.map V.int) none (some 10) ++ [.int 0, .int 1])) = H0
    have hc3 : H0 c3 = some (.lst (cutV (ns.map V.int) none (some 10) ++ [.int 0, .int 1])) := by
      rw [← hH0]
      exact upd_same
    refine ⟨c3, rfl, ⟨_, SqL.of hc3⟩, for_list (K := K) (a := c3) (xs := cutV (ns.map V.int) none (some 10) ++ [.int 0, .int 1])
      (fun i σ H' => ∃ y1 y2 y3 y4 y5 y6 y7 y8 y9 y10 y11, σ = [some (.ref a), y1, y2, y3, y4, y5, y6, y7, y8, y9, y10, y11] ∧ Same H0 H') ⟨_, _, _, _, _, _, _, _, _, _, _, rfl, Same.refl _⟩ (fun i σ H' _ h => ?_) (fun i x σ H' hx h => ?_) (fun σ H' h => ?_)⟩
    · obtain ⟨_, _, _, _, _, _, _, _, _, _, _, _, s0⟩ := h
      exact s0.seq (SqL.of hc3)
    · obtain ⟨y1, y2, y3, y4, y5, y6, y7, y8, y9, y10, y11, rfl, s0⟩ := h
      obtain ⟨z, rfl⟩ := cells_int (more := [0, 1]) hx
      refine ⟨_, rfl, z, rfl, fun aw H1 nA sA wA => ?_⟩
      have w1 := wA.mono (show 100 ≤ 1099511627776 by decide)
      refine ⟨_, rfl, aw, 93, rfl, w1, fun t b v H2 lt lb hb s2 w2 f2 => ?_⟩
      refine ⟨_, rfl, _, rfl, aw, _, t, b, 84, rfl, w2, f2, lt, lb, hb, fun c d u H3 lc ld hd s3 w3 f3 => ?_⟩
      obtain ⟨pp, rfl, hp⟩ := (f2.mono s3).mono hid_same
      obtain ⟨po, rfl, ho⟩ := f3.mono hid_same
      have lt2 : t.natAbs < 2 ^ 210 := up lt (by decide)
      have lb2 : b.natAbs < 2 ^ 210 := up lb (by decide)
      have sAll : Same H0 H3 := s0.trans (sA.trans (s2.trans (s3.trans hid_same)))
      have bx : Bd 210 (Rat.divInt t b) := .divInt hb lt2 lb2
      have by_ : Bd 210 (Rat.divInt c d) := .divInt hd lc ld
      -- the two shares
      refine ⟨_, rfl, pp, _, _, _, rfl, rfl, .inl (.inl hp), atI_nat (j := 0) rfl, _, rfl, pp, _, _, _, rfl, rfl, .inl (.inl hp), atI_nat (j := 1) rfl, ?_⟩
      refine mk_share hb (log_of (by decide) lb (by decide)) fun H4 r4 s4 h4 => ?_
      have hp := s4 _ _ hp
      have ho := s4 _ _ ho
      refine ⟨_, rfl, po, _, _, _, rfl, rfl, .inl (.inl ho), atI_nat (j := 0) rfl, _, rfl, po, _, _, _, rfl, rfl, .inl (.inl ho), atI_nat (j := 1) rfl, ?_⟩
      refine mk_share hd (log_of (by decide) ld (by decide)) fun H5 r5 s5 h5 => ?_
      have hp := s5 _ _ hp
      have ho := s5 _ _ ho
      have h4 := h4.mono s5
      refine ⟨by show 2 ≤ sizeLine; decide, fun p6 n6 => ?_⟩
      have s6 := same_upd (o := .tup [.ref r4, .ref r5]) n6
      have hp := s6 _ _ hp
      have ho := s6 _ _ ho
      have h4 := h4.mono s6
      have h5 := h5.mono s6
      have sAll := sAll.trans (s4.trans (s5.trans s6))
      refine ⟨p6, _, rfl, sqT_new, rfl, _, _, rfl, _, _, rfl, rfl, ?_⟩
      generalize upd H5 p6 (.tup [.ref r4, .ref r5]) = H6 at *
      -- each of them
      refine ⟨_, rfl, _, rfl, pp, _, _, _, rfl, rfl, .inl (.inl hp), atI_nat (j := 0) rfl, _, rfl, pp, _, _, _, rfl, rfl, .inl (.inl hp), atI_nat (j := 1) rfl, _, _, rfl, hb, log_of (by decide) lb (by decide), fun H7 r7 s7 h7 => ?_⟩
      refine ⟨by show 2 ≤ sizeLine; decide, fun p8 n8 => ?_⟩
      have s8 := same_upd (o := .tup [.ref r4, r7]) n8
      have hp := s8 _ _ (s7 _ _ hp)
      have ho := s8 _ _ (s7 _ _ ho)
      have e8 : (upd H7 p8 (.tup [.ref r4, r7])) p8 = some (.tup [.ref r4, r7]) := upd_same
      have h4 := h4.mono (s7.trans s8)
      have h5 := h5.mono (s7.trans s8)
      have h7 := h7.mono s8
      have sAll := sAll.trans (s7.trans s8)
      generalize upd H7 p8 (.tup [.ref r4, r7]) = H8 at *
      refine ⟨_, rfl, _, rfl, po, _, _, _, rfl, rfl, .inl (.inl ho), atI_nat (j := 0) rfl, _, rfl, po, _, _, _, rfl, rfl, .inl (.inl ho), atI_nat (j := 1) rfl, _, _, rfl, hd, log_of (by decide) ld (by decide), fun H9 r9 s9 h9 => ?_⟩
      refine ⟨by show 2 ≤ sizeLine; decide, fun p10 n10 => ?_⟩
      have s10 := same_upd (o := .tup [.ref r5, r9]) n10
      have e10 : (upd H9 p10 (.tup [.ref r5, r9])) p10 = some (.tup [.ref r5, r9]) := upd_same
      have hp := s10 _ _ (s9 _ _ hp)
      have ho := s10 _ _ (s9 _ _ ho)
      have h4 := h4.mono (s9.trans s10)
      have h5 := h5.mono (s9.trans s10)
      have h7 := h7.mono (s9.trans s10)
      have h9 := h9.mono s10
      have e8 := s10 _ _ (s9 _ _ e8)
      have sAll := sAll.trans (s9.trans s10)
      generalize upd H9 p10 (.tup [.ref r5, r9]) = H10 at *
      refine ⟨by show 2 ≤ sizeLine; decide, fun p11 n11 => ?_⟩
      have s11 := same_upd (o := .lst [.ref p8, .ref p10]) n11
      have e11 : (upd H10 p11 (.lst [.ref p8, .ref p10])) p11 = some (.lst [.ref p8, .ref p10]) := upd_same
      have hp := s11 _ _ hp
      have ho := s11 _ _ ho
      have h4 := h4.mono s11
      have h5 := h5.mono s11
      have h7 := h7.mono s11
      have h9 := h9.mono s11
      have e8 := s11 _ _ e8
      have e10 := s11 _ _ e10
      have sAll := sAll.trans s11
      generalize upd H10 p11 (.lst [.ref p8, .ref p10]) = H11 at *
      refine ⟨p11, rfl, ⟨_, SqL.of e11⟩, for_list (K := K) (a := p11) (xs := [.ref p8, .ref p10]) (fun i σ H' => ∃ x7 x8, σ = [some (.ref a), some (.int z), some (.ref aw), some (.ref pp), some (.ref po), some (.ref r4), some (.ref r5), x7, x8, y9, y10, y11] ∧ Same H11 H') ⟨_, _, rfl, Same.refl _⟩ (fun i σ H' _ h => ?_) (fun i7 x7 σ H' hx7 h => ?_) (fun σ H' h => ?_)⟩
      · obtain ⟨_, _, _, s'⟩ := h
        exact s'.seq (SqL.of e11)
      · obtain ⟨z7, z8, rfl, s12⟩ := h
        obtain ⟨px, vs, vd, g, rfl, hpx, hg, hdu, bg⟩ : ∃ px vs vd g, x7 = .ref px ∧ H' px = some (.tup [vs, vd]) ∧ IsShare T.c_Share H' vs g ∧ IsTup2 H' vd g.num (g.den : Int) ∧ Bd 210 g := by
          have : x7 = .ref p8 ∨ x7 = .ref p10 := by
            have := List.mem_of_getElem? hx7
            simpa using this
          rcases this with e | e
          · exact ⟨p8, _, _, _, e, s12 _ _ e8, h4.mono s12, h7.mono s12, bx⟩
          · exact ⟨p10, _, _, _, e, s12 _ _ e10, h5.mono s12, h9.mono s12, by_⟩
        obtain ⟨lg1, lg2⟩ := bd_log (bg.mono (by decide))
        refine ⟨px, _, rfl, .inl (.inl hpx), rfl, _, _, rfl, _, _, rfl, rfl, ?_⟩
        refine ⟨_, rfl, _, _, rfl, hg, bg.mono (by decide), fun H13 r13 s13 h13 => ?_⟩
        refine ⟨_, rfl, _, _, h13.dp, (hdu.mono s13).dp, rfl, rfl, false, ?_, iteF ?_⟩
        · rw [eqv_tup2]
          simp
        · obtain ⟨pg, dg, rfl, eg⟩ := hg.mono s13
          refine ⟨_, rfl, pg, dg, _, rfl, eg, _, _, rfl, hg.mono s13, bg, fun HS sS => ⟨_, rfl, ?_⟩⟩
          refine ⟨_, rfl, _, _, _, rfl, hdu.mono (s13.trans sS), lg1, lg2, rfl, _, rfl, ?_⟩
          have e0 : (!decide (V.str (shareText g) = V.str (pairText g.num (g.den : Int)))) = false := by
            unfold shareText
            rw [decide_eq_true rfl]
            rfl
          rw [e0]
          exact iteF ⟨_, _, rfl, s12.trans (s13.trans sS)⟩
      · obtain ⟨z7, z8, rfl, s12⟩ := h
        have hp := s12 _ _ hp
        have ho := s12 _ _ ho
        have h4 := h4.mono s12
        have h5 := h5.mono s12
        have sAll := sAll.trans s12
        have wm : ∀ {x y : Int}, x.natAbs < 2 ^ 210 → y.natAbs < 2 ^ 210 → CMulW x y := fun hx hy => wide_mul hx hy (by decide) (by decide) (by decide)
        -- same
        refine ⟨_, rfl, pp, _, _, _, rfl, rfl, .inl (.inl hp), atI_nat (j := 0) rfl, _, rfl, po, _, _, _, rfl, rfl, .inl (.inl ho), atI_nat (j := 1) rfl, _, _, rfl, rfl, wm lt2 ld,
          _, rfl, po, _, _, _, rfl, rfl, .inl (.inl ho), atI_nat (j := 0) rfl, _, rfl, pp, _, _, _, rfl, rfl, .inl (.inl hp), atI_nat (j := 1) rfl, _, _, rfl, rfl, wm lc lb2, rfl, ?_⟩
        have es := cross_eq (t := t) (c := c) hb hd
        have es2 : decide (Rat.divInt c d = Rat.divInt t b) = decide (V.int (t * d) = V.int (c * b)) := by
          rw [← es]
          exact decide_eq_decide.mpr ⟨Eq.symm, Eq.symm⟩
        generalize hsame : decide (V.int (t * d) = V.int (c * b)) = same at es es2
        refine ⟨_, rfl, _, rfl, eqS T h4 h5 ?_⟩
        refine ⟨_, rfl, rfl, false, ?_, iteF ?_⟩
        · show V.bl (!decide (V.bl (id (decide (Rat.divInt t b = Rat.divInt c d))) = V.bl same)) = V.bl false
          rw [es]
          simp
        refine ⟨_, rfl, _, rfl, eqS T h5 h4 ?_⟩
        refine ⟨_, rfl, rfl, false, ?_, iteF ?_⟩
        · show V.bl (!decide (V.bl (id (decide (Rat.divInt c d = Rat.divInt t b))) = V.bl same)) = V.bl false
          rw [es2]
          simp
        refine ⟨_, rfl, _, rfl, eqS T h4 h5 ?_⟩
        refine ⟨_, rfl, rfl, false, ?_, iteF ?_⟩
        · show V.bl (decide (V.bl (not (decide (Rat.divInt t b = Rat.divInt c d))) = V.bl same)) = V.bl false
          rw [es]
          cases same <;> rfl
        -- the whole number
        refine ⟨_, rfl, pp, _, _, _, rfl, rfl, .inl (.inl hp), atI_nat (j := 0) rfl, ?_⟩
        refine mk_share (b := 1) (by decide) (by decide) fun H14 r14 s14 h14 => ?_
        obtain ⟨d1, d2⟩ := divInt_one t
        have hp := s14 _ _ hp
        have b14 : Bd 210 (Rat.divInt t 1) := .divInt (by decide) lt2 (by decide)
        obtain ⟨lw1, lw2⟩ := bd_log (b14.mono (by decide))
        refine ⟨_, rfl, _, _, rfl, h14, b14.mono (by decide), fun H15 r15 s15 h15 => ?_⟩
        rw [d1, d2] at h15
        have hp := s15 _ _ hp
        have h14 := h14.mono s15
        refine ⟨_, rfl, pp, _, _, _, rfl, rfl, .inl (.inl hp), atI_nat (j := 0) rfl, by show 2 ≤ sizeLine; decide, fun p16 n16 => ?_⟩
        have s16 := same_upd (o := .tup [.int t, .int 1]) n16
        refine ⟨_, _, (h15.mono s16).dp, IsTup2.dp ⟨p16, rfl, upd_same⟩, rfl, rfl, false, ?_, iteF ?_⟩
        · rw [eqv_tup2]
          simp
        · have hp := s16 _ _ hp
          have h14 := h14.mono s16
          have sAll := sAll.trans (s14.trans (s15.trans s16))
          have h4 := h4.mono (s14.trans (s15.trans s16))
          generalize upd H15 p16 (.tup [.int t, .int 1]) = H16 at *
          obtain ⟨_, dw, ew, eg⟩ := id h14
          cases ew
          refine ⟨_, rfl, r14, dw, _, rfl, eg, _, _, rfl, h14, b14, fun HS sS => ⟨_, rfl, ?_⟩⟩
          have hp := sS _ _ hp
          have h14 := h14.mono sS
          have sAll := sAll.trans sS
          have h4 := h4.mono sS
          rw [d1] at lw1
          refine ⟨_, rfl, pp, _, _, _, rfl, rfl, .inl (.inl hp), atI_nat (j := 0) rfl, _, rfl, lw1, rfl, _, rfl, ?_⟩
          have e0 : (!decide (V.str (shareText (Rat.divInt t 1)) = V.str (Str.ofString (toString t)))) = false := by
            unfold shareText pairText
            rw [d1, d2, if_pos (by rfl), decide_eq_true rfl]
            rfl
          rw [e0]
          refine iteF ?_
          refine ⟨_, rfl, _, rfl, pp, _, _, _, rfl, rfl, .inl (.inl hp), atI_nat (j := 0) rfl, ?_⟩
          refine mk_share (b := 1) (by decide) (by decide) fun H17 r17 s17 h17 => ?_
          refine eqS T (h14.mono s17) h17 ?_
          refine ⟨false, ?_, iteF ?_⟩
          · rw [decide_eq_true rfl]
            rfl
          · have hp := s17 _ _ hp
            have h4 := h4.mono s17
            have sAll := sAll.trans s17
            -- what are no shares
            obtain ⟨l4a, l4b⟩ := bd_log (bx.mono (by decide))
            obtain ⟨_, d4, e4, eg4⟩ := id h4
            cases e4
            refine ⟨_, rfl, _, rfl, pp, _, _, _, rfl, rfl, .inl (.inl hp), atI_nat (j := 0) rfl, _, rfl, r4, d4, _, rfl, eg4, _, _, rfl, h4, bx, fun HS sS => ⟨_, rfl, ?_⟩⟩
            have hp := sS _ _ hp
            have h4 := h4.mono sS
            have sAll := sAll.trans sS
            refine ⟨_, rfl, by show 1 ≤ sizeLine; decide, fun p18 n18 => ?_⟩
            have s18 := same_upd (o := .lst [.ref r4]) n18
            have e18 : (upd HS p18 (.lst [.ref r4])) p18 = some (.lst [.ref r4]) := upd_same
            have hp := s18 _ _ hp
            have h4 := h4.mono s18
            have sAll := sAll.trans s18
            generalize upd HS p18 (.lst [.ref r4]) = H18 at *
            refine ⟨_, rfl, pp, _, _, _, rfl, rfl, .inl (.inl hp), atI_nat (j := 0) rfl, _, rfl, pp, _, _, _, rfl, rfl, .inl (.inl hp), atI_nat (j := 1) rfl, _, _, rfl, hb, log_of (by decide) lb (by decide), fun H19 r19 s19 h19 => ?_⟩
            have hp := s19 _ _ hp
            have h4 := h4.mono s19
            have e18 := s19 _ _ e18
            have sAll := sAll.trans s19
            obtain ⟨p19, rfl, e19⟩ := h19
            refine ⟨by show 6 ≤ sizeLine; decide, fun p20 n20 => ?_⟩
            have s20 := same_upd (o := .lst [.ref pp, .int t, .str (shareText (Rat.divInt t b)), .non, .ref p18, .ref p19]) n20
            have e20 : (upd H19 p20 (.lst [.ref pp, .int t, .str (shareText (Rat.divInt t b)), .non, .ref p18, .ref p19])) p20 = some (.lst [.ref pp, .int t, .str (shareText (Rat.divInt t b)), .non, .ref p18, .ref p19]) := upd_same
            have hp := s20 _ _ hp
            have h4 := h4.mono s20
            have e18 := s20 _ _ e18
            have e19 := s20 _ _ e19
            have sAll := sAll.trans s20
            generalize upd H19 p20 (.lst [.ref pp, .int t, .str (shareText (Rat.divInt t b)), .non, .ref p18, .ref p19]) = H20 at *
            refine ⟨p20, rfl, ⟨_, SqL.of e20⟩, fun D nD => lc_all (K := K) (a := p20) (xs := [.ref pp, .int t, .str (shareText (Rat.divInt t b)), .non, .ref p18, .ref p19]) (fun i y _ => y = .bl false) (fun _ _ _ _ _ h => h) nD (SqL.of e20) (by show 6 ≤ 1000; decide) (fun i21 x21 H21 k hx21 s21 eD hk => ?_) (fun H21 ys s21 e21 l21 r21 => ?_)⟩
            · have s21' := s21.trans hid_same
              refine ⟨rfl, ?_⟩
              refine ⟨_, rfl, _, rfl, ?_⟩
              have m21 : x21 = .ref pp ∨ x21 = .int t ∨ x21 = .str (shareText (Rat.divInt t b)) ∨ x21 = .non ∨ x21 = .ref p18 ∨ x21 = .ref p19 := by
                have := List.mem_of_getElem? hx21
                simpa using this
              have fin := hk (.bl false) H21 (Same.refl _) rfl
              rcases m21 with e | e | e | e | e | e <;> subst e
              · exact eqN T (h4.mono s21') (.base (.tup (s21' _ _ hp))) T.nf_Share_tuple T.k_Share_tuple fin
              · exact eqN T (h4.mono s21') (.base (.int _)) T.nf_Share_int T.k_Share_int fin
              · exact eqN T (h4.mono s21') (.base (.str _)) T.nf_Share_str T.k_Share_str fin
              · exact eqN T (h4.mono s21') (.base .non) T.nf_Share_NoneType T.k_Share_NoneType fin
              · exact eqN T (h4.mono s21') (.base (.lst (s21' _ _ e18))) T.nf_Share_list T.k_Share_list fin
              · exact eqN T (h4.mono s21') (.base (.tup (s21' _ _ e19))) T.nf_Share_tuple T.k_Share_tuple fin
            · have ey : ys = (List.replicate 6 false).map V.bl := by
                refine List.ext_getElem? fun i => ?_
                by_cases hi : i < ys.length
                · have := r21 i _ (List.getElem?_eq_getElem hi)
                  rw [List.getElem?_eq_getElem hi, this, List.getElem?_map, List.getElem?_replicate, if_pos (by rw [l21] at hi; exact hi)]
                  rfl
                · rw [List.getElem?_eq_none (by omega), List.getElem?_eq_none]
                  rw [List.length_map, List.length_replicate]
                  rw [l21] at hi
                  exact Nat.le_of_not_lt hi
              rw [ey] at e21
              refine ⟨D, _, rfl, SqL.of e21, false, rfl, iteF ?_⟩
              exact ⟨_, _, _, _, _, _, _, _, _, _, _, rfl, sAll.trans (s21.trans hid_same)⟩
    · obtain ⟨_, _, _, _, _, _, _, _, _, _, _, rfl, _⟩ := h
      exact q _
end

end Fb

namespace Fb
open PySem PySem.Spec PyProof.Rows L2
set_option maxHeartbeats 4000000 in
theorem all_mk {l : PySem.W.OpenLaw} {w : World} {K : PySem.W.Frag} {h : Heap} {mg : Str → Option Value} {fa : Addr} (X : K.In h) (G : h.Ns mainGlobals mg) (hfa : mg "law" = some (.ref fa))
    {c_FarError c_NoShare c_Share f_p_written f_p_is_whole f_m_Share_init t_m_Share_init f_m_Share_eq f_m_Share_str f_p_common_part f_l_well f_l_draw f_l_one f_l_low f_l_pair f_l_number f_l_fraction f_l_text f_l_second f_law : Addr} {od_p_written an_p_written od_p_is_whole an_p_is_whole od_m_Share_init an_m_Share_init odt_m_Share_init od_m_Share_eq an_m_Share_eq od_m_Share_str an_m_Share_str od_p_common_part an_p_common_part od_l_well an_l_well od_l_draw an_l_draw od_l_one an_l_one od_l_low an_l_low od_l_pair an_l_pair od_l_number an_l_number od_l_fraction an_l_fraction od_l_text an_l_text od_l_second an_l_second od_law an_law : Option Addr} {sl_p_written sl_p_is_whole sl_m_Share_init slt_m_Share_init sl_m_Share_eq sl_m_Share_str sl_p_common_part sl_l_well sl_l_draw sl_l_one sl_l_low sl_l_pair sl_l_number sl_l_fraction sl_l_text sl_l_second sl_law : Array (Option Value)} {oc_p_written kV_p_written dc_p_written pm_p_written cd_p_written ct_p_written oc_p_is_whole kV_p_is_whole dc_p_is_whole pm_p_is_whole cd_p_is_whole ct_p_is_whole oc_m_Share_init kV_m_Share_init dc_m_Share_init pm_m_Share_init cd_m_Share_init ct_m_Share_init oct_m_Share_init oc_m_Share_eq kV_m_Share_eq dc_m_Share_eq pm_m_Share_eq cd_m_Share_eq ct_m_Share_eq oc_m_Share_str kV_m_Share_str dc_m_Share_str pm_m_Share_str cd_m_Share_str ct_m_Share_str oc_p_common_part kV_p_common_part dc_p_common_part pm_p_common_part cd_p_common_part ct_p_common_part oc_l_well kV_l_well dc_l_well pm_l_well cd_l_well ct_l_well oc_l_draw kV_l_draw dc_l_draw pm_l_draw cd_l_draw ct_l_draw oc_l_one kV_l_one dc_l_one pm_l_one cd_l_one ct_l_one oc_l_low kV_l_low dc_l_low pm_l_low cd_l_low ct_l_low oc_l_pair kV_l_pair dc_l_pair pm_l_pair cd_l_pair ct_l_pair oc_l_number kV_l_number dc_l_number pm_l_number cd_l_number ct_l_number oc_l_fraction kV_l_fraction dc_l_fraction pm_l_fraction cd_l_fraction ct_l_fraction oc_l_text kV_l_text dc_l_text pm_l_text cd_l_text ct_l_text oc_l_second kV_l_second dc_l_second pm_l_second cd_l_second ct_l_second oc_law kV_law dc_law pm_law cd_law ct_law : Value} {tk0_m_Share_init : _} {tkc_PIECE_LENGTH : _} {nt_m_Share_init : _}
    (a_FarError : PySem.W.nsIn K mainGlobals "FarError" = some (some (.ref c_FarError)))
    (a_NoShare : PySem.W.nsIn K mainGlobals "NoShare" = some (some (.ref c_NoShare)))
    (a_Share : PySem.W.nsIn K mainGlobals "Share" = some (some (.ref c_Share)))
    (a_p_written : PySem.W.nsIn K mainGlobals "written" = some (some (.ref f_p_written)))
    (l_p_written : K.lookup f_p_written = some ⟨oc_p_written, od_p_written, .func (PySem.W.fnOf "written" "written" (defArgs s_p_written) (defBody s_p_written) (defScope s_p_written) .none kV_p_written dc_p_written pm_p_written an_p_written cd_p_written ct_p_written), sl_p_written⟩)
    (c_p_written_ : PySem.W.codeIn K cd_p_written "written" = true)
    (k_p_written_ : PySem.W.keepIn K (.ref f_p_written) = true)
    (a_p_is_whole : PySem.W.nsIn K mainGlobals "is_whole" = some (some (.ref f_p_is_whole)))
    (l_p_is_whole : K.lookup f_p_is_whole = some ⟨oc_p_is_whole, od_p_is_whole, .func (PySem.W.fnOf "is_whole" "is_whole" (defArgs s_p_is_whole) (defBody s_p_is_whole) (defScope s_p_is_whole) .none kV_p_is_whole dc_p_is_whole pm_p_is_whole an_p_is_whole cd_p_is_whole ct_p_is_whole), sl_p_is_whole⟩)
    (c_p_is_whole_ : PySem.W.codeIn K cd_p_is_whole "is_whole" = true)
    (k_p_is_whole_ : PySem.W.keepIn K (.ref f_p_is_whole) = true)
    (a_m_Share_init : PySem.W.findIn K (.ref c_Share) "__init__" = some (some (.ref f_m_Share_init)))
    (l_m_Share_init : K.lookup f_m_Share_init = some ⟨oc_m_Share_init, od_m_Share_init, .func (PySem.W.fnOf "__init__" "Share.__init__" (defArgs s_m_Share_init) (defBody s_m_Share_init) (defScope s_m_Share_init) (.ref t_m_Share_init) kV_m_Share_init dc_m_Share_init pm_m_Share_init an_m_Share_init cd_m_Share_init ct_m_Share_init), sl_m_Share_init⟩)
    (lt_m_Share_init : K.lookup t_m_Share_init = some ⟨oct_m_Share_init, odt_m_Share_init, .seq (List.toArray [Value.int 1 tk0_m_Share_init]) nt_m_Share_init, slt_m_Share_init⟩)
    (c_m_Share_init_ : PySem.W.codeIn K cd_m_Share_init "Share.__init__" = true)
    (k_m_Share_init_ : PySem.W.keepIn K (.ref f_m_Share_init) = true)
    (a_m_Share_eq : PySem.W.findIn K (.ref c_Share) "__eq__" = some (some (.ref f_m_Share_eq)))
    (l_m_Share_eq : K.lookup f_m_Share_eq = some ⟨oc_m_Share_eq, od_m_Share_eq, .func (PySem.W.fnOf "__eq__" "Share.__eq__" (defArgs s_m_Share_eq) (defBody s_m_Share_eq) (defScope s_m_Share_eq) .none kV_m_Share_eq dc_m_Share_eq pm_m_Share_eq an_m_Share_eq cd_m_Share_eq ct_m_Share_eq), sl_m_Share_eq⟩)
    (c_m_Share_eq_ : PySem.W.codeIn K cd_m_Share_eq "Share.__eq__" = true)
    (k_m_Share_eq_ : PySem.W.keepIn K (.ref f_m_Share_eq) = true)
    (a_m_Share_str : PySem.W.findIn K (.ref c_Share) "__str__" = some (some (.ref f_m_Share_str)))
    (l_m_Share_str : K.lookup f_m_Share_str = some ⟨oc_m_Share_str, od_m_Share_str, .func (PySem.W.fnOf "__str__" "Share.__str__" (defArgs s_m_Share_str) (defBody s_m_Share_str) (defScope s_m_Share_str) .none kV_m_Share_str dc_m_Share_str pm_m_Share_str an_m_Share_str cd_m_Share_str ct_m_Share_str), sl_m_Share_str⟩)
    (c_m_Share_str_ : PySem.W.codeIn K cd_m_Share_str "Share.__str__" = true)
    (k_m_Share_str_ : PySem.W.keepIn K (.ref f_m_Share_str) = true)
    (a_p_common_part : PySem.W.nsIn K mainGlobals "common_part" = some (some (.ref f_p_common_part)))
    (l_p_common_part : K.lookup f_p_common_part = some ⟨oc_p_common_part, od_p_common_part, .func (PySem.W.fnOf "common_part" "common_part" (defArgs s_p_common_part) (defBody s_p_common_part) (defScope s_p_common_part) .none kV_p_common_part dc_p_common_part pm_p_common_part an_p_common_part cd_p_common_part ct_p_common_part), sl_p_common_part⟩)
    (c_p_common_part_ : PySem.W.codeIn K cd_p_common_part "common_part" = true)
    (k_p_common_part_ : PySem.W.keepIn K (.ref f_p_common_part) = true)
    (a_l_well : PySem.W.nsIn K mainGlobals "_law_well" = some (some (.ref f_l_well)))
    (l_l_well : K.lookup f_l_well = some ⟨oc_l_well, od_l_well, .func (PySem.W.fnOf "_law_well" "_law_well" (defArgs s_l_well) (defBody s_l_well) (defScope s_l_well) .none kV_l_well dc_l_well pm_l_well an_l_well cd_l_well ct_l_well), sl_l_well⟩)
    (c_l_well_ : PySem.W.codeIn K cd_l_well "_law_well" = true)
    (k_l_well_ : PySem.W.keepIn K (.ref f_l_well) = true)
    (a_l_draw : PySem.W.nsIn K mainGlobals "_law_draw" = some (some (.ref f_l_draw)))
    (l_l_draw : K.lookup f_l_draw = some ⟨oc_l_draw, od_l_draw, .func (PySem.W.fnOf "_law_draw" "_law_draw" (defArgs s_l_draw) (defBody s_l_draw) (defScope s_l_draw) .none kV_l_draw dc_l_draw pm_l_draw an_l_draw cd_l_draw ct_l_draw), sl_l_draw⟩)
    (c_l_draw_ : PySem.W.codeIn K cd_l_draw "_law_draw" = true)
    (k_l_draw_ : PySem.W.keepIn K (.ref f_l_draw) = true)
    (a_l_one : PySem.W.nsIn K mainGlobals "_law_one" = some (some (.ref f_l_one)))
    (l_l_one : K.lookup f_l_one = some ⟨oc_l_one, od_l_one, .func (PySem.W.fnOf "_law_one" "_law_one" (defArgs s_l_one) (defBody s_l_one) (defScope s_l_one) .none kV_l_one dc_l_one pm_l_one an_l_one cd_l_one ct_l_one), sl_l_one⟩)
    (c_l_one_ : PySem.W.codeIn K cd_l_one "_law_one" = true)
    (k_l_one_ : PySem.W.keepIn K (.ref f_l_one) = true)
    (a_l_low : PySem.W.nsIn K mainGlobals "_law_low" = some (some (.ref f_l_low)))
    (l_l_low : K.lookup f_l_low = some ⟨oc_l_low, od_l_low, .func (PySem.W.fnOf "_law_low" "_law_low" (defArgs s_l_low) (defBody s_l_low) (defScope s_l_low) .none kV_l_low dc_l_low pm_l_low an_l_low cd_l_low ct_l_low), sl_l_low⟩)
    (c_l_low_ : PySem.W.codeIn K cd_l_low "_law_low" = true)
    (k_l_low_ : PySem.W.keepIn K (.ref f_l_low) = true)
    (a_l_pair : PySem.W.nsIn K mainGlobals "_law_pair" = some (some (.ref f_l_pair)))
    (l_l_pair : K.lookup f_l_pair = some ⟨oc_l_pair, od_l_pair, .func (PySem.W.fnOf "_law_pair" "_law_pair" (defArgs s_l_pair) (defBody s_l_pair) (defScope s_l_pair) .none kV_l_pair dc_l_pair pm_l_pair an_l_pair cd_l_pair ct_l_pair), sl_l_pair⟩)
    (c_l_pair_ : PySem.W.codeIn K cd_l_pair "_law_pair" = true)
    (k_l_pair_ : PySem.W.keepIn K (.ref f_l_pair) = true)
    (a_l_number : PySem.W.nsIn K mainGlobals "_law_number" = some (some (.ref f_l_number)))
    (l_l_number : K.lookup f_l_number = some ⟨oc_l_number, od_l_number, .func (PySem.W.fnOf "_law_number" "_law_number" (defArgs s_l_number) (defBody s_l_number) (defScope s_l_number) .none kV_l_number dc_l_number pm_l_number an_l_number cd_l_number ct_l_number), sl_l_number⟩)
    (c_l_number_ : PySem.W.codeIn K cd_l_number "_law_number" = true)
    (k_l_number_ : PySem.W.keepIn K (.ref f_l_number) = true)
    (a_l_fraction : PySem.W.nsIn K mainGlobals "_law_fraction" = some (some (.ref f_l_fraction)))
    (l_l_fraction : K.lookup f_l_fraction = some ⟨oc_l_fraction, od_l_fraction, .func (PySem.W.fnOf "_law_fraction" "_law_fraction" (defArgs s_l_fraction) (defBody s_l_fraction) (defScope s_l_fraction) .none kV_l_fraction dc_l_fraction pm_l_fraction an_l_fraction cd_l_fraction ct_l_fraction), sl_l_fraction⟩)
    (c_l_fraction_ : PySem.W.codeIn K cd_l_fraction "_law_fraction" = true)
    (k_l_fraction_ : PySem.W.keepIn K (.ref f_l_fraction) = true)
    (a_l_text : PySem.W.nsIn K mainGlobals "_law_text" = some (some (.ref f_l_text)))
    (l_l_text : K.lookup f_l_text = some ⟨oc_l_text, od_l_text, .func (PySem.W.fnOf "_law_text" "_law_text" (defArgs s_l_text) (defBody s_l_text) (defScope s_l_text) .none kV_l_text dc_l_text pm_l_text an_l_text cd_l_text ct_l_text), sl_l_text⟩)
    (c_l_text_ : PySem.W.codeIn K cd_l_text "_law_text" = true)
    (k_l_text_ : PySem.W.keepIn K (.ref f_l_text) = true)
    (a_l_second : PySem.W.nsIn K mainGlobals "_law_second" = some (some (.ref f_l_second)))
    (l_l_second : K.lookup f_l_second = some ⟨oc_l_second, od_l_second, .func (PySem.W.fnOf "_law_second" "_law_second" (defArgs s_l_second) (defBody s_l_second) (defScope s_l_second) .none kV_l_second dc_l_second pm_l_second an_l_second cd_l_second ct_l_second), sl_l_second⟩)
    (c_l_second_ : PySem.W.codeIn K cd_l_second "_law_second" = true)
    (k_l_second_ : PySem.W.keepIn K (.ref f_l_second) = true)
    (a_law : PySem.W.nsIn K mainGlobals "law" = some (some (.ref f_law)))
    (l_law : K.lookup f_law = some ⟨oc_law, od_law, .func (PySem.W.fnOf "law" "law" (defArgs s_law) (defBody s_law) (defScope s_law) .none kV_law dc_law pm_law an_law cd_law ct_law), sl_law⟩)
    (c_law_ : PySem.W.codeIn K cd_law "law" = true)
    (k_law_ : PySem.W.keepIn K (.ref f_law) = true)
    (pg_Share : PySem.W.plainGet K c_Share Str.empty = true)
    (hd_Share : PySem.W.hasDictIn K c_Share = true)
    (po_Share : PySem.W.plainOver K c_Share = true)
    (sa_Share : PySem.W.findIn K (.ref c_Share) "__setattr__" = some (some (.builtin "object.__setattr__")))
    (mk_Share : PySem.W.makesIn K c_Share = true)
    (kc_Share : PySem.W.keepIn K (.ref c_Share) = true)
    (if_Share : PySem.W.isFn K (.ref f_m_Share_init) = true)
    (ha_Share : PySem.W.findIn K (.ref c_Share) "__class__" = some (some (.builtin "object.__class__")))
    (hn_Share : PySem.W.specialIn K (.builtin "object.__class__") "__get__" = some (some (.builtin "getset_descriptor.__get__")))
    (ht_Share : PySem.W.takesIn K (.builtin "object.__class__") = some true)
    (hm_Share : PySem.W.mroIn K c_Share (.type "object") = some true)
    (n_Share_top : PySem.W.findIn K (.ref c_Share) "top" = some none)
    (n_Share_bottom : PySem.W.findIn K (.ref c_Share) "bottom" = some none)
    (i_m_Share_eq : PySem.W.isFn K (.ref f_m_Share_eq) = true)
    (i_m_Share_str : PySem.W.isFn K (.ref f_m_Share_str) = true)
    (nn_Share : PySem.W.findIn K (.ref c_Share) "__ne__" = some (some (.builtin "object.__ne__")))
    (nf_Share_int : PySem.W.notFirst K c_Share (.type "int") = true)
    (nf_Share_str : PySem.W.notFirst K c_Share (.type "str") = true)
    (nf_Share_NoneType : PySem.W.notFirst K c_Share (.type "NoneType") = true)
    (nf_Share_list : PySem.W.notFirst K c_Share (.type "list") = true)
    (nf_Share_tuple : PySem.W.notFirst K c_Share (.type "tuple") = true)
    (nf_Share_dict : PySem.W.notFirst K c_Share (.type "dict") = true)
    (nf_Share_bool : PySem.W.notFirst K c_Share (.type "bool") = true)
    (ko_Share : PySem.W.kitOne K (.ref c_Share) (.ref c_Share) = some true)
    (ko_Share_int : PySem.W.kitOne K (.type "int") (.ref c_Share) = some false)
    (ko_Share_str : PySem.W.kitOne K (.type "str") (.ref c_Share) = some false)
    (ko_Share_NoneType : PySem.W.kitOne K (.type "NoneType") (.ref c_Share) = some false)
    (ko_Share_list : PySem.W.kitOne K (.type "list") (.ref c_Share) = some false)
    (ko_Share_tuple : PySem.W.kitOne K (.type "tuple") (.ref c_Share) = some false)
    (ko_Share_dict : PySem.W.kitOne K (.type "dict") (.ref c_Share) = some false)
    (ko_Share_bool : PySem.W.kitOne K (.type "bool") (.ref c_Share) = some false)
    (ac_PIECE_LENGTH : PySem.W.nsIn K mainGlobals "PIECE_LENGTH" = some (some (Value.int 64 tkc_PIECE_LENGTH)))
    (zz_divmod : PySem.W.nsIn K mainGlobals "divmod" = some none)
    (zz_str : PySem.W.nsIn K mainGlobals "str" = some none)
    (zz_isinstance : PySem.W.nsIn K mainGlobals "isinstance" = some none)
    (zz_int : PySem.W.nsIn K mainGlobals "int" = some none)
    (zz_bool : PySem.W.nsIn K mainGlobals "bool" = some none)
    (zz_abs : PySem.W.nsIn K mainGlobals "abs" = some none)
    (zz_len : PySem.W.nsIn K mainGlobals "len" = some none)
    (zz_any : PySem.W.nsIn K mainGlobals "any" = some none)
    : ∃ fd : FuncData, (∀ (s : Shared) (v : Value), BindsTo s fd ⟨[v], []⟩ [("_law_script", v)]) ∧ ∀ base : Heap, K.In base → base.Ns mainGlobals mg → FnOk l.prog w K mg base CX0 12 fa fd ["_law_script"] (spLaw K) := by
  have e := hfa.symm.trans (PySem.W.mg_of X G a_law)
  cases e
  have F_p_written := fun_mk (st := s_p_written) l_p_written c_p_written_ k_p_written_
  have b_p_written := F_p_written.binds (ps := ["number"]) fun _ _ _ _ _ _ us hl => match us, hl with | [_], _ => rfl
  have F_p_is_whole := fun_mk (st := s_p_is_whole) l_p_is_whole c_p_is_whole_ k_p_is_whole_
  have b_p_is_whole := F_p_is_whole.binds (ps := ["thing"]) fun _ _ _ _ _ _ us hl => match us, hl with | [_], _ => rfl
  have F_m_Share_init : FunD K "__init__" "Share.__init__" (defArgs s_m_Share_init) (defBody s_m_Share_init) (defScope s_m_Share_init) [.int 1] [] f_m_Share_init (PySem.W.fnOf "__init__" "Share.__init__" (defArgs s_m_Share_init) (defBody s_m_Share_init) (defScope s_m_Share_init) (.ref t_m_Share_init) kV_m_Share_init dc_m_Share_init pm_m_Share_init an_m_Share_init cd_m_Share_init ct_m_Share_init) := ⟨⟨_, _, _, _, _, _, _, _, _, _, rfl, l_m_Share_init, c_m_Share_init_, .inr ⟨by simp, t_m_Share_init, _, _, _, rfl, lt_m_Share_init, rfl, (.cons ⟨_, rfl⟩ .nil)⟩, .inl rfl⟩, k_m_Share_init_⟩
  have b_m_Share_init : Binds K (PySem.W.fnOf "__init__" "Share.__init__" (defArgs s_m_Share_init) (defBody s_m_Share_init) (defScope s_m_Share_init) (.ref t_m_Share_init) kV_m_Share_init dc_m_Share_init pm_m_Share_init an_m_Share_init cd_m_Share_init ct_m_Share_init) ["self", "top", "bottom"] [] := by
    obtain ⟨ds, v0, b0⟩ := F_m_Share_init.binds1 (ps := ["self", "top", "bottom"]) 3 1 (by simp) rfl fun _ _ _ _ _ _ _ us its h1 h2 => match us, its, h1, h2 with | [_, _, _], [_], _, _ => ⟨_, rfl, rfl⟩
    cases v0
    exact b0
  have e_m_Share_init : ∃ ds, Vals [.int 1] ds ∧ Binds K (PySem.W.fnOf "__init__" "Share.__init__" (defArgs s_m_Share_init) (defBody s_m_Share_init) (defScope s_m_Share_init) (.ref t_m_Share_init) kV_m_Share_init dc_m_Share_init pm_m_Share_init an_m_Share_init cd_m_Share_init ct_m_Share_init) ["self", "top", "bottom"] ds := F_m_Share_init.binds1 2 0 (by simp) rfl fun _ _ _ _ _ _ _ us its h1 h2 => match us, its, h1, h2 with | [_, _], [_], _, _ => ⟨_, rfl, rfl⟩
  have F_m_Share_eq := fun_mk (st := s_m_Share_eq) l_m_Share_eq c_m_Share_eq_ k_m_Share_eq_
  have b_m_Share_eq := F_m_Share_eq.binds (ps := ["self", "other"]) fun _ _ _ _ _ _ us hl => match us, hl with | [_, _], _ => rfl
  have F_m_Share_str := fun_mk (st := s_m_Share_str) l_m_Share_str c_m_Share_str_ k_m_Share_str_
  have b_m_Share_str := F_m_Share_str.binds (ps := ["self"]) fun _ _ _ _ _ _ us hl => match us, hl with | [_], _ => rfl
  have F_p_common_part := fun_mk (st := s_p_common_part) l_p_common_part c_p_common_part_ k_p_common_part_
  have b_p_common_part := F_p_common_part.binds (ps := ["one", "other"]) fun _ _ _ _ _ _ us hl => match us, hl with | [_, _], _ => rfl
  have F_l_well := fun_mk (st := s_l_well) l_l_well c_l_well_ k_l_well_
  have b_l_well := F_l_well.binds (ps := ["_law_cell"]) fun _ _ _ _ _ _ us hl => match us, hl with | [_], _ => rfl
  have F_l_draw := fun_mk (st := s_l_draw) l_l_draw c_l_draw_ k_l_draw_
  have b_l_draw := F_l_draw.binds (ps := ["_law_well_here", "_law_many"]) fun _ _ _ _ _ _ us hl => match us, hl with | [_, _], _ => rfl
  have F_l_one := fun_mk (st := s_l_one) l_l_one c_l_one_ k_l_one_
  have b_l_one := F_l_one.binds (ps := ["_law_well_here", "_law_some"]) fun _ _ _ _ _ _ us hl => match us, hl with | [_, _], _ => rfl
  have F_l_low := fun_mk (st := s_l_low) l_l_low c_l_low_ k_l_low_
  have b_l_low := F_l_low.binds (ps := ["_law_top", "_law_bottom"]) fun _ _ _ _ _ _ us hl => match us, hl with | [_, _], _ => rfl
  have F_l_pair := fun_mk (st := s_l_pair) l_l_pair c_l_pair_ k_l_pair_
  have b_l_pair := F_l_pair.binds (ps := ["_law_share"]) fun _ _ _ _ _ _ us hl => match us, hl with | [_], _ => rfl
  have F_l_number := fun_mk (st := s_l_number) l_l_number c_l_number_ k_l_number_
  have b_l_number := F_l_number.binds (ps := ["_law_well_here"]) fun _ _ _ _ _ _ us hl => match us, hl with | [_], _ => rfl
  have F_l_fraction := fun_mk (st := s_l_fraction) l_l_fraction c_l_fraction_ k_l_fraction_
  have b_l_fraction := F_l_fraction.binds (ps := ["_law_well_here"]) fun _ _ _ _ _ _ us hl => match us, hl with | [_], _ => rfl
  have F_l_text := fun_mk (st := s_l_text) l_l_text c_l_text_ k_l_text_
  have b_l_text := F_l_text.binds (ps := ["_law_pair_here"]) fun _ _ _ _ _ _ us hl => match us, hl with | [_], _ => rfl
  have F_l_second := fun_mk (st := s_l_second) l_l_second c_l_second_ k_l_second_
  have b_l_second := F_l_second.binds (ps := ["_law_well_here", "_law_pair_here"]) fun _ _ _ _ _ _ us hl => match us, hl with | [_, _], _ => rfl
  have F_law := fun_mk (st := s_law) l_law c_law_ k_law_
  have b_law := F_law.binds (ps := ["_law_script"]) fun _ _ _ _ _ _ us hl => match us, hl with | [_], _ => rfl
  exact ⟨PySem.W.fnOf "law" "law" (defArgs s_law) (defBody s_law) (defScope s_law) .none kV_law dc_law pm_law an_law cd_law ct_law, fun s v => .of_eq rfl, fun base _ _ => ok_law (⟨c_FarError, (PySem.W.mg_of X G a_FarError), c_NoShare, (PySem.W.mg_of X G a_NoShare), c_Share, (PySem.W.mg_of X G a_Share), f_p_written, _, F_p_written, b_p_written, (PySem.W.mg_of X G a_p_written), f_p_is_whole, _, F_p_is_whole, b_p_is_whole, (PySem.W.mg_of X G a_p_is_whole), f_m_Share_init, _, F_m_Share_init, b_m_Share_init, e_m_Share_init, f_m_Share_eq, _, F_m_Share_eq, b_m_Share_eq, f_m_Share_str, _, F_m_Share_str, b_m_Share_str, f_p_common_part, _, F_p_common_part, b_p_common_part, (PySem.W.mg_of X G a_p_common_part), f_l_well, _, F_l_well, b_l_well, (PySem.W.mg_of X G a_l_well), f_l_draw, _, F_l_draw, b_l_draw, (PySem.W.mg_of X G a_l_draw), f_l_one, _, F_l_one, b_l_one, (PySem.W.mg_of X G a_l_one), f_l_low, _, F_l_low, b_l_low, (PySem.W.mg_of X G a_l_low), f_l_pair, _, F_l_pair, b_l_pair, (PySem.W.mg_of X G a_l_pair), f_l_number, _, F_l_number, b_l_number, (PySem.W.mg_of X G a_l_number), f_l_fraction, _, F_l_fraction, b_l_fraction, (PySem.W.mg_of X G a_l_fraction), f_l_text, _, F_l_text, b_l_text, (PySem.W.mg_of X G a_l_text), f_l_second, _, F_l_second, b_l_second, (PySem.W.mg_of X G a_l_second), _, _, F_law, b_law, (PySem.W.mg_of X G a_law), ⟨pg_Share, hd_Share, po_Share, sa_Share⟩, ⟨mk_Share, a_m_Share_init, if_Share, kc_Share⟩, ⟨ha_Share, hn_Share, ht_Share, hm_Share⟩, n_Share_top, n_Share_bottom, ⟨a_m_Share_eq, i_m_Share_eq, k_m_Share_eq_⟩, ⟨a_m_Share_str, i_m_Share_str, k_m_Share_str_⟩, nn_Share, nf_Share_int, nf_Share_str, nf_Share_NoneType, nf_Share_list, nf_Share_tuple, nf_Share_dict, nf_Share_bool, ko_Share, ko_Share_int, ko_Share_str, ko_Share_NoneType, ko_Share_list, ko_Share_tuple, ko_Share_dict, ko_Share_bool, _, (PySem.W.mg_of X G ac_PIECE_LENGTH), ⟨_, rfl⟩, (PySem.W.mg_none_of X G zz_divmod), (PySem.W.mg_none_of X G zz_str), (PySem.W.mg_none_of X G zz_isinstance), (PySem.W.mg_none_of X G zz_int), (PySem.W.mg_none_of X G zz_bool), (PySem.W.mg_none_of X G zz_abs), (PySem.W.mg_none_of X G zz_len), (PySem.W.mg_none_of X G zz_any)⟩ : Txt K mg)⟩
end Fb
open PySem PySem.W PyProof.Rows
set_option maxRecDepth 100000 in
set_option maxHeartbeats 0 in
theorem PySem.Challenge.cw_farbetween_k01_shares_made_holds : PySem.Challenge.rw_farbetween_k01_shares_made.Holds := by
  w_on; o_law; k_head; (case hw => w_witness2)
  k_fill
  refine L2.walk_of (l := PySem.Challenge.rw_farbetween_k01_shares_made) (n := 63) (k := 12) (x := "_law_script") (CX := fun _ => L2.CX0) (sp := fun w => Fb.spLaw _) rfl (by decide) rfl ⟨rfl, by decide, by decide⟩ (fun w h Y => PySem.W.kIn_of Y) ?F (fun _ _ a ns hl _ hS => ⟨a, ns, rfl, hS, hl, fun _ => rfl⟩) (fun _ _ _ _ _ h => h)
  case F =>
    intro w mg fa h KX G hmg
    refine' Fb.all_mk KX G hmg ?a_FarError ?a_NoShare ?a_Share ?a_p_written ?l_p_written ?c_p_written_ ?k_p_written_ ?a_p_is_whole ?l_p_is_whole ?c_p_is_whole_ ?k_p_is_whole_ ?a_m_Share_init ?l_m_Share_init ?lt_m_Share_init ?c_m_Share_init_ ?k_m_Share_init_ ?a_m_Share_eq ?l_m_Share_eq ?c_m_Share_eq_ ?k_m_Share_eq_ ?a_m_Share_str ?l_m_Share_str ?c_m_Share_str_ ?k_m_Share_str_ ?a_p_common_part ?l_p_common_part ?c_p_common_part_ ?k_p_common_part_ ?a_l_well ?l_l_well ?c_l_well_ ?k_l_well_ ?a_l_draw ?l_l_draw ?c_l_draw_ ?k_l_draw_ ?a_l_one ?l_l_one ?c_l_one_ ?k_l_one_ ?a_l_low ?l_l_low ?c_l_low_ ?k_l_low_ ?a_l_pair ?l_l_pair ?c_l_pair_ ?k_l_pair_ ?a_l_number ?l_l_number ?c_l_number_ ?k_l_number_ ?a_l_fraction ?l_l_fraction ?c_l_fraction_ ?k_l_fraction_ ?a_l_text ?l_l_text ?c_l_text_ ?k_l_text_ ?a_l_second ?l_l_second ?c_l_second_ ?k_l_second_ ?a_law ?l_law ?c_law_ ?k_law_ ?pg_Share ?hd_Share ?po_Share ?sa_Share ?mk_Share ?kc_Share ?if_Share ?ha_Share ?hn_Share ?ht_Share ?hm_Share ?n_Share_top ?n_Share_bottom ?i_m_Share_eq ?i_m_Share_str ?nn_Share ?nf_Share_int ?nf_Share_str ?nf_Share_NoneType ?nf_Share_list ?nf_Share_tuple ?nf_Share_dict ?nf_Share_bool ?ko_Share ?ko_Share_int ?ko_Share_str ?ko_Share_NoneType ?ko_Share_list ?ko_Share_tuple ?ko_Share_dict ?ko_Share_bool ?ac_PIECE_LENGTH ?zz_divmod ?zz_str ?zz_isinstance ?zz_int ?zz_bool ?zz_abs ?zz_len ?zz_any
    (case a_FarError => k_is)
    (case a_NoShare => k_is)
    (case a_Share => k_is)
    (case a_p_written => k_is)
    (case l_p_written => k_is)
    (case c_p_written_ => k_is)
    (case k_p_written_ => k_is)
    (case a_p_is_whole => k_is)
    (case l_p_is_whole => k_is)
    (case c_p_is_whole_ => k_is)
    (case k_p_is_whole_ => k_is)
    (case a_m_Share_init => k_is)
    (case l_m_Share_init => k_is)
    (case lt_m_Share_init => k_is)
    (case c_m_Share_init_ => k_is)
    (case k_m_Share_init_ => k_is)
    (case a_m_Share_eq => k_is)
    (case l_m_Share_eq => k_is)
    (case c_m_Share_eq_ => k_is)
    (case k_m_Share_eq_ => k_is)
    (case a_m_Share_str => k_is)
    (case l_m_Share_str => k_is)
    (case c_m_Share_str_ => k_is)
    (case k_m_Share_str_ => k_is)
    (case a_p_common_part => k_is)
    (case l_p_common_part => k_is)
    (case c_p_common_part_ => k_is)
    (case k_p_common_part_ => k_is)
    (case a_l_well => k_is)
    (case l_l_well => k_is)
    (case c_l_well_ => k_is)
    (case k_l_well_ => k_is)
    (case a_l_draw => k_is)
    (case l_l_draw => k_is)
    (case c_l_draw_ => k_is)
    (case k_l_draw_ => k_is)
    (case a_l_one => k_is)
    (case l_l_one => k_is)
    (case c_l_one_ => k_is)
    (case k_l_one_ => k_is)
    (case a_l_low => k_is)
    (case l_l_low => k_is)
    (case c_l_low_ => k_is)
    (case k_l_low_ => k_is)
    (case a_l_pair => k_is)
    (case l_l_pair => k_is)
    (case c_l_pair_ => k_is)
    (case k_l_pair_ => k_is)
    (case a_l_number => k_is)
    (case l_l_number => k_is)
    (case c_l_number_ => k_is)
    (case k_l_number_ => k_is)
    (case a_l_fraction => k_is)
    (case l_l_fraction => k_is)
    (case c_l_fraction_ => k_is)
    (case k_l_fraction_ => k_is)
    (case a_l_text => k_is)
    (case l_l_text => k_is)
    (case c_l_text_ => k_is)
    (case k_l_text_ => k_is)
    (case a_l_second => k_is)
    (case l_l_second => k_is)
    (case c_l_second_ => k_is)
    (case k_l_second_ => k_is)
    (case a_law => k_is)
    (case l_law => k_is)
    (case c_law_ => k_is)
    (case k_law_ => k_is)
    (case pg_Share => k_is)
    (case hd_Share => k_is)
    (case po_Share => k_is)
    (case sa_Share => k_is)
    (case mk_Share => k_is)
    (case kc_Share => k_is)
    (case if_Share => k_is)
    (case ha_Share => k_is)
    (case hn_Share => k_is)
    (case ht_Share => k_is)
    (case hm_Share => k_is)
    (case n_Share_top => k_is)
    (case n_Share_bottom => k_is)
    (case i_m_Share_eq => k_is)
    (case i_m_Share_str => k_is)
    (case nn_Share => k_is)
    (case nf_Share_int => k_is)
    (case nf_Share_str => k_is)
    (case nf_Share_NoneType => k_is)
    (case nf_Share_list => k_is)
    (case nf_Share_tuple => k_is)
    (case nf_Share_dict => k_is)
    (case nf_Share_bool => k_is)
    (case ko_Share => kit_is)
    (case ko_Share_int => kit_is)
    (case ko_Share_str => kit_is)
    (case ko_Share_NoneType => kit_is)
    (case ko_Share_list => kit_is)
    (case ko_Share_tuple => kit_is)
    (case ko_Share_dict => kit_is)
    (case ko_Share_bool => kit_is)
    (case ac_PIECE_LENGTH => k_is)
    (case zz_divmod => k_is)
    (case zz_str => k_is)
    (case zz_isinstance => k_is)
    (case zz_int => k_is)
    (case zz_bool => k_is)
    (case zz_abs => k_is)
    (case zz_len => k_is)
    (case zz_any => k_is)
