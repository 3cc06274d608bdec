import PyProof.Rows.All
import Wide.All
import OpenK.AllK
import Wide.FinOn
import KE.KStateDown
import HandS.Base
import HandS.Call
import HandS.Ends
import HandS.List
import HandS.Comp
import HandS.Iter
import HandS.More
import HandS.Words
import HandS.WordsList
import HandS.WordsExc
import HandS.Defaults
import HandS.Wide
import HandS.Head0
import HandS.Head1
import HandS.Head2
import HandS.HeadEnd
import HandS.HeadHook1
import HandS.HeadHook2
import PySem.Challenge.RW_sherdhall_k02_whole_a_field
set_option Elab.async false
set_option linter.all false
set_option maxRecDepth 100000
set_option maxHeartbeats 4000000
namespace Cm
open PySem PySem.Spec PyProof.Rows L2
/-! ### a def, known by its name -/
def Dn (P : Program) (w : World) (K : PySem.W.Frag) (mg : Str → Option Value) (base : Heap) (CX : CXT) (k : Nat) (x : Str) (ps : List Str) (sp : Sp) : Prop :=
  ∃ (f : Addr) (fd : FuncData), FnOk P w K mg base CX k f fd ps sp ∧ mg x = some (.ref f) ∧ PySem.W.keepIn K (.ref f) = true ∧ Binds K fd ps []
/-- where a def without defaults stands -/
def At (K : PySem.W.Frag) (mg : Str → Option Value) (x : Str) (st : Stmt) (ps : List Str) : Prop :=
  ∃ (f : Addr) (fd : FuncData), FunD K x x (defArgs st) (defBody st) (defScope st) [] [] f fd ∧ mg x = some (.ref f) ∧ Binds K fd ps []
section
variable {P : Program} {w : World} {K : PySem.W.Frag} {mg : Str → Option Value} {base : Heap}
theorem ok0 {x : Str} {st : Stmt} {N ps : List Str} {k : Nat} {sp : Sp} {f : Addr} {fd : FuncData} (F : FunD K x x (defArgs st) (defBody st) (defScope st) [] [] f fd) (S : FnScope N ps (defScope st)) (len : ∀ vs H Q E, sp vs H Q E → vs.length = ps.length)
    (hbody : ∀ (f : Addr) (cdv : Value) (A : Around) (outer : List Env) (s : Shared) (H : Hp) (vs : List V) (Q : VK) (E : XK), Room k (A.deeper (envOfC x (defScope st) s.heap.objs.size f cdv)) → sp vs H Q E →
      ∃ t, PSs (cxOf CX0 P w K mg base N x (defScope st) f cdv A outer s H E).nox (defBody st) t ∧ t { nx := fun _ H' => Q .non H', rt := Q } (start N vs) H) : FnOk P w K mg base CX0 (k + 1) f fd ps sp := by
  refine F.ok S len fun cdv A outer s H vs Q E hr h => ?_
  obtain ⟨t, h1, h2⟩ := hbody f cdv A outer s H vs Q E hr h
  exact ⟨t, h1.nox, h2⟩
theorem At.ok {x : Str} {st : Stmt} {N ps : List Str} {k : Nat} {sp : Sp} (F : At K mg x st ps) (S : FnScope N ps (defScope st)) (len : ∀ vs H Q E, sp vs H Q E → vs.length = ps.length)
    (hbody : ∀ (f : Addr) (cdv : Value) (A : Around) (outer : List Env) (s : Shared) (H : Hp) (vs : List V) (Q : VK) (E : XK), Room k (A.deeper (envOfC x (defScope st) s.heap.objs.size f cdv)) → sp vs H Q E →
      ∃ t, PSs (cxOf CX0 P w K mg base N x (defScope st) f cdv A outer s H E).nox (defBody st) t ∧ t { nx := fun _ H' => Q .non H', rt := Q } (start N vs) H) : Dn P w K mg base CX0 (k + 1) x ps sp := by
  obtain ⟨f, fd, F, hm, hb⟩ := F
  refine ⟨f, fd, F.ok S len fun cdv A outer s H vs Q E hr h => ?_, hm, F.kp, hb⟩
  obtain ⟨t, h1, h2⟩ := hbody f cdv A outer s H vs Q E hr h
  exact ⟨t, h1.nox, h2⟩
end
section
variable {X : Cx} {k : Nat} {x : Str} {ps : List Str} {sp : Sp} {p pos : Pos} {e : Expr} {es : List Expr} {t : TA}
theorem pe_callD (D : Dn X.prog X.w X.K X.mg X.base CX0 k x ps sp) (hr : Room k X.A) (ha : PA X (e :: es) t) (hg : Gl X x := by rfl) (hdb : (x == ("__debug__" : Str)) = false := by decide)
    (he : starEach (e :: es) X.env = (false, eval e X.env) :: starEach es X.env := by rfl) (hpl : (backTo pos (starEach es X.env)).any (·.1) = false := by rfl) :
    PE X (.Call (.Name x p) (e :: es) [] pos) (tCall sp [] E0 t) := by
  obtain ⟨f, fd, F, hm, hk, hb⟩ := D
  exact pe_call F hr hg hm hk hb .nil pass0 ha hdb he hpl
end
/-! ### powers of ints of any size -/
def CPowW (i j : Int) : Prop := 0 ≤ j ∧ (Builtin.Int.intBits i : Int) * j ≤ 2 ^ 27
theorem CPowW.mk {i : Int} {n a : Nat} (ha : i.natAbs < 2 ^ a) (h0 : 0 < a) (h : a * n ≤ 100000000) : CPowW i n := by
  refine ⟨Int.natCast_nonneg _, ?_⟩
  have b : Builtin.Int.intBits i ≤ i.natAbs.log2 + 1 := by
    unfold Builtin.Int.intBits
    split <;> omega
  have x := PySem.Flt.log2_lt_of h0 ha
  have c : Builtin.Int.intBits i ≤ a := by omega
  have d : Builtin.Int.intBits i * n ≤ a * n := Nat.mul_le_mul_right _ c
  have e : ((Builtin.Int.intBits i * n : Nat) : Int) ≤ ((100000000 : Nat) : Int) := Int.ofNat_le.mpr (Nat.le_trans d h)
  rw [Int.natCast_mul] at e
  have e2 : ((100000000 : Nat) : Int) ≤ 2 ^ 27 := by decide
  exact Int.le_trans e e2
theorem op_powW {X : Cx} : OpR X (binaryOp .Pow) (rI CPowW fun i j => .int (i ^ j.toNat)) := opI fun _ _ _ _ _ _ _ hc q => pow_int hc.1 hc.2 q
/-! ### tests -/
theorem iteD {c A B : Prop} [Decidable c] (h1 : c → A) (h2 : ¬ c → B) : if decide c = true then A else B := by
  by_cases h : c
  · rw [decide_eq_true h]; exact iteT (h1 h)
  · rw [decide_eq_false h]; exact iteF (h2 h)
theorem iteDn {c A B : Prop} [Decidable c] (h1 : ¬ c → A) (h2 : c → B) : if (!decide c) = true then A else B := by
  by_cases h : c
  · rw [decide_eq_true h]; exact iteF (h2 h)
  · rw [decide_eq_false h]; exact iteT (h1 h)
theorem iteI {x y : Int} {A B : Prop} (h1 : x = y → A) (h2 : ¬ x = y → B) : if decide (V.int x = V.int y) = true then A else B :=
  iteD (fun h => h1 (V.int.inj h)) (fun h => h2 fun e => h (congrArg V.int e))
theorem iteIn {x y : Int} {A B : Prop} (h1 : ¬ x = y → A) (h2 : x = y → B) : if (!decide (V.int x = V.int y)) = true then A else B :=
  iteDn (fun h => h1 fun e => h (congrArg V.int e)) (fun h => h2 (V.int.inj h))
theorem iteB {b : Bool} {A B : Prop} (h1 : b = true → A) (h2 : b = false → B) : if b = true then A else B := by
  cases b with
  | true => exact iteT (h1 rfl)
  | false => exact iteF (h2 rfl)
theorem iteBn {b : Bool} {A B : Prop} (h1 : b = false → A) (h2 : b = true → B) : if (!b) = true then A else B := by
  cases b with
  | true => exact iteF (h2 rfl)
  | false => exact iteT (h1 rfl)
/-! ### heaps -/
/-- all that was tracked, but p, is as it was -/
def Kp (p : Addr) (H H' : Hp) : Prop := ∀ b o, H b = some o → b ≠ p → H' b = some o
theorem Kp.refl (p : Addr) (H : Hp) : Kp p H H := fun _ _ h _ => h
theorem Kp.trans {p : Addr} {H H1 H2 : Hp} (a : Kp p H H1) (b : Kp p H1 H2) : Kp p H H2 := fun c o h n => b c o (a c o h n) n
theorem Kp.of {p : Addr} {H H1 : Hp} (a : Same H H1) : Kp p H H1 := fun c o h _ => a c o h
theorem Kp.new {p a : Addr} {H : Hp} {o : HO} (n : H a = none) : Kp p H (upd H a o) := fun c u h _ => by rw [upd_ne (ne_of_none h n)]; exact h
theorem Kp.put {p : Addr} {H : Hp} {o : HO} : Kp p H (upd H p o) := fun c u h n => by rw [upd_ne n]; exact h
theorem Same.new {a : Addr} {H : Hp} {o : HO} (n : H a = none) : Same H (upd H a o) := fun c u h => by rw [upd_ne (ne_of_none h n)]; exact h
theorem old {H : Hp} {a p : Addr} {o u : HO} (h : H a = some u) (n : H p = none) : upd H p o a = some u := by rw [upd_ne (ne_of_none h n)]; exact h
/-- p was free ahead: what is kept but p is kept -/
theorem Kp.same {p : Addr} {H0 H H' : Hp} (s : Same H0 H) (n : H0 p = none) (k : Kp p H H') : Same H0 H' := fun b o h => k b o (s b o h) (ne_of_none h n)
end Cm
namespace Cm
open PySem PySem.Spec PyProof.Rows L2
theorem at_ints {ns : List Int} {k : Int} (h0 : 0 ≤ k) (h : k < ns.length) : ∃ z, z ∈ ns ∧ ns[k.toNat]? = some z ∧ atI (ns.map V.int) k = some (.int z) := by
  have hk : k.toNat < ns.length := by omega
  refine ⟨ns[k.toNat], List.getElem_mem _, List.getElem?_eq_getElem hk, ?_⟩
  obtain ⟨j, rfl⟩ : ∃ j : Nat, k = (j : Int) := ⟨k.toNat, by omega⟩
  refine atI_nat ?_
  rw [List.getElem?_map, List.getElem?_eq_getElem (by omega)]
  rfl
theorem p10_18 : (10 : Int) ^ (18 : Int).toNat = 1000000000000000000 := by decide
end Cm

set_option Elab.async false
set_option linter.all false
set_option maxRecDepth 100000
set_option maxHeartbeats 4000000

namespace Hx
open PySem PySem.Spec PyProof.Rows L2 Cm
def top (i : Nat) : Stmt := PySem.Challenge.pw_sherdhall_k02_whole_a_field.main.body.getD i (.Pass ⟨0, 0, 0, 0⟩)
abbrev s_plus : Stmt := top 5
abbrev s_minus : Stmt := top 6
abbrev s_times : Stmt := top 7
abbrev s_power : Stmt := top 8
abbrev s_over : Stmt := top 9
abbrev s__law_purse : Stmt := top 11
abbrev s__law_drawn : Stmt := top 12
abbrev s__law_number : Stmt := top 13
abbrev s__law_sums : Stmt := top 14
abbrev s__law_quotients : Stmt := top 15
abbrev s_law : Stmt := top 16
structure Txt (mg : Str → Option Value) where
  n_len : mg "len" = none
  n_max : mg "max" = none
  n_min : mg "min" = none
  n_range : mg "range" = none
  u_PRIME : Value
  g_PRIME : mg "PRIME" = some u_PRIME
  v_PRIME : RelV (.int 97) u_PRIME
/-! ### numbers by 97 -/
theorem mod_ml (a b : Int) : (a % 97 * b) % 97 = a * b % 97 := by rw [Int.mul_emod, Int.emod_emod, ← Int.mul_emod]
theorem mod_mr (a b : Int) : (a * (b % 97)) % 97 = a * b % 97 := by rw [Int.mul_emod, Int.emod_emod, ← Int.mul_emod]
theorem mod_pw (a : Int) : ∀ n : Nat, (a % 97) ^ n % 97 = a ^ n % 97
  | 0 => by rw [Int.pow_zero, Int.pow_zero]
  | n + 1 => by rw [Int.pow_succ, Int.pow_succ, Int.mul_emod, mod_pw a n, Int.emod_emod, ← Int.mul_emod]
theorem fermat {a : Int} (h : a % 97 ≠ 0) : a ^ 96 % 97 = 1 := by
  rw [← mod_pw]
  have h0 : 0 ≤ a % 97 := Int.emod_nonneg _ (by decide)
  have h1 : a % 97 < 97 := Int.emod_lt_of_pos _ (by decide)
  obtain ⟨n, hn⟩ : ∃ n : Nat, a % 97 = (n : Int) := ⟨(a % 97).toNat, by omega⟩
  rw [hn] at h h0 h1 ⊢
  have key : ∀ n : Fin 97, n.val ≠ 0 → ((n.val : Int)) ^ 96 % 97 = 1 := by decide +kernel
  exact key ⟨n, by omega⟩ (by simp; omega)
/-- a small enough number -/
def Bd (a : Int) : Prop := a.natAbs < 2 ^ 250
theorem Bd.mod (a : Int) : Bd (a % 97) := by
  have h0 : 0 ≤ a % 97 := Int.emod_nonneg _ (by decide)
  have h1 : a % 97 < 97 := Int.emod_lt_of_pos _ (by decide)
  have h2 : 97 < 2 ^ 250 := by decide
  unfold Bd
  omega
local macro_rules | `(tactic| walk_at "bd") => `(tactic| first | assumption | exact Bd.mod _ | (unfold Bd; decide))
local macro_rules | `(tactic| walk_at "rd") => `(tactic| repeat (first | refine ⟨_, rfl, ?_⟩ | refine ⟨_, _, rfl, rfl, ?_⟩ | refine ⟨_, _, rfl, ?_⟩ | refine ⟨_, _, _, rfl, ?_⟩ | refine ⟨rfl, ?_⟩ | refine ⟨(by walk_at "bd" : Bd _), ?_⟩))
local macro_rules | `(tactic| walk_at "mem") => `(tactic| first | assumption | exact upd_same | (refine old ?_ ?_ <;> walk_at "mem"))
local macro_rules | `(tactic| walk_at "sq") => `(tactic| first | assumption | (refine SqL.of ?_; walk_at "mem"))
section
variable {P : Program} {w : World} {K : PySem.W.Frag} {mg : Str → Option Value} {base : Heap}
theorem sc_plus : FnScope ["one", "other"] ["one", "other"] (defScope s_plus) := ⟨rfl, rfl, rfl, by decide +kernel, rfl, by decide +kernel, by decide +kernel⟩
theorem sc_minus : FnScope ["one", "other"] ["one", "other"] (defScope s_minus) := ⟨rfl, rfl, rfl, by decide +kernel, rfl, by decide +kernel, by decide +kernel⟩
theorem sc_times : FnScope ["one", "other"] ["one", "other"] (defScope s_times) := ⟨rfl, rfl, rfl, by decide +kernel, rfl, by decide +kernel, by decide +kernel⟩
theorem sc_power : FnScope ["one", "many", "product", "square", "rest"] ["one", "many"] (defScope s_power) := ⟨rfl, rfl, rfl, by decide +kernel, rfl, by decide +kernel, by decide +kernel⟩
theorem sc_over : FnScope ["one", "other"] ["one", "other"] (defScope s_over) := ⟨rfl, rfl, rfl, by decide +kernel, rfl, by decide +kernel, by decide +kernel⟩
theorem sc__law_purse : FnScope ["script", "k", "cell"] ["script", "k"] (defScope s__law_purse) := ⟨rfl, rfl, rfl, by decide +kernel, rfl, by decide +kernel, by decide +kernel⟩
theorem sc__law_drawn : FnScope ["purse", "many", "found", "turn", "mixed"] ["purse", "many"] (defScope s__law_drawn) := ⟨rfl, rfl, rfl, by decide +kernel, rfl, by decide +kernel, by decide +kernel⟩
theorem sc__law_number : FnScope ["purse", "kind", "sign", "found", "j"] ["purse"] (defScope s__law_number) := ⟨rfl, rfl, rfl, by decide +kernel, rfl, by decide +kernel, by decide +kernel⟩
theorem sc__law_sums : FnScope ["one", "other", "third"] ["one", "other", "third"] (defScope s__law_sums) := ⟨rfl, rfl, rfl, by decide +kernel, rfl, by decide +kernel, by decide +kernel⟩
theorem sc__law_quotients : FnScope ["one", "other", "third"] ["one", "other", "third"] (defScope s__law_quotients) := ⟨rfl, rfl, rfl, by decide +kernel, rfl, by decide +kernel, by decide +kernel⟩
theorem sc_law : FnScope ["script", "k", "purse", "many", "more", "one", "other", "third", "product"] ["script"] (defScope s_law) := ⟨rfl, rfl, rfl, by decide +kernel, rfl, by decide +kernel, by decide +kernel⟩
def spPurse (K : PySem.W.Frag) : Sp := fun vs H Q _ => ∃ (a : Addr) (ns : List Int) (k : Int), vs = [.ref a, .int k] ∧ SqL K H a (ns.map V.int) ∧ ns.length ≤ 1000 ∧ 0 ≤ k ∧ k ≤ 1000 ∧
  ∀ p x y, H p = none → 0 ≤ x → 0 ≤ y → y < 2 ^ 210 → Q (.ref p) (upd H p (.lst [.int x, .int y, .int 0]))
theorem ok_purse (T : Txt mg) (F : At K mg "_law_purse" s__law_purse ["script", "k"]) : Dn P w K mg base CX0 1 "_law_purse" ["script", "k"] (spPurse K) := by
  refine F.ok sc__law_purse (fun vs H Q E h => ?_) (fun f cdv A outer s H vs Q E hr h => ?_)
  · obtain ⟨a, ns, k, rfl, _⟩ := h
    rfl
  · obtain ⟨a, ns, k, rfl, hS, hl, k0, k1, q⟩ := h
    have fin : ∀ cell : Int, ∀ p, H p = none → Q (.ref p) (upd H p (.lst [.int (if cell - 10 ^ (18 : Int).toNat > 0 then cell - 10 ^ (18 : Int).toNat else 0), .int (cell % (10 ^ (60 : Int).toNat + 7) + 611953 * k), .int 0])) := fun cell p hp => by
      have h1 : 0 ≤ cell % (10 ^ (60 : Int).toNat + 7) := Int.emod_nonneg _ (by decide)
      have h2 : cell % (10 ^ (60 : Int).toNat + 7) < 10 ^ (60 : Int).toNat + 7 := Int.emod_lt_of_pos _ (by decide)
      have h3 : (10 : Int) ^ (60 : Int).toNat + 7 + 611953 * 1000 < 2 ^ 210 := by decide
      refine q p _ _ hp ?_ ?_ ?_
      · split <;> omega
      · omega
      · omega
    refine ⟨_, (pss_cons (ps_set (i := 2) sc__law_purse.nd rfl (by first | exact Or.inl rfl | exact Or.inr rfl) pe_int)
  (pss_cons (ps_if (pt_cmpR op_lt (pv 1) (pe_callB call_len (by rfl) T.n_len (by decide +kernel) (pa_cons (pv 0) pa_nil)) (nomark _)) (pss_one (ps_set (i := 2) sc__law_purse.nd rfl (by first | exact Or.inl rfl | exact Or.inr rfl) (pe_ix ix_list (pv 0) (pv 1) (fun _ _ => rfl)))) pss_nil)
  (pss_one (ps_ret (pe_lst (pa_cons (pe_callB (call_max2 rfl) (by rfl) T.n_max (by decide +kernel) (pa_cons pe_int (pa_cons (pe_op op_sub (pv 2) (pe_op op_pow pe_int pe_int)) pa_nil))) (pa_cons (pe_op op_add (pe_op op_mod (pv 2) (pe_op op_add (pe_op op_pow pe_int pe_int) pe_int)) (pe_op op_mul pe_int (pv 1))) (pa_cons pe_int pa_nil)))))))), ?_⟩
    walk_at "rd"
    refine ⟨_, _, rfl, .inl ⟨_, hS, rfl⟩, _, _, rfl, rfl, _, rfl, iteD (fun hk => ?_) fun _ => ?_⟩
    · obtain ⟨z, _, _, hz⟩ := at_ints (ns := ns) (k := k) k0 (by rw [List.length_map] at hk; exact hk)
      walk_at "rd"
      refine ⟨_, _, _, _, rfl, rfl, hS, hz, _, rfl, _, _, rfl, rfl, ⟨by decide, by decide, by decide⟩, _, _, rfl, rfl, _, _, rfl, _, rfl, _, _, rfl, rfl, ⟨by decide, by decide, by decide⟩, _, _, rfl, rfl, _, _, rfl, rfl, (by show (0 : Int) < _; decide), _, rfl, _, _, rfl, rfl, .inl ⟨by decide, by decide⟩, _, _, rfl, rfl, (by show 3 ≤ sizeLine; decide), fun p hp => fin z p hp⟩
    · refine ⟨_, rfl, _, _, rfl, rfl, ⟨by decide, by decide, by decide⟩, _, _, rfl, rfl, _, _, rfl, _, rfl, _, _, rfl, rfl, ⟨by decide, by decide, by decide⟩, _, _, rfl, rfl, _, _, rfl, rfl, (by show (0 : Int) < _; decide), _, rfl, _, _, rfl, rfl, .inl ⟨by decide, by decide⟩, _, _, rfl, rfl, (by show 3 ≤ sizeLine; decide), fun p hp => fin 0 p hp⟩
/-- a purse at p, of which at most c turns are taken -/
def Purse (H : Hp) (p : Addr) (c : Int) : Prop := ∃ x y z : Int, H p = some (.lst [.int x, .int y, .int z]) ∧ 0 ≤ x ∧ 0 ≤ y ∧ y < 2 ^ 210 ∧ 0 ≤ z ∧ z ≤ c
theorem Purse.mono {H : Hp} {p : Addr} {c d : Int} (h : Purse H p c) (l : c ≤ d) : Purse H p d := by
  obtain ⟨x, y, z, h1, h2, h3, h4, h5, h6⟩ := h
  exact ⟨x, y, z, h1, h2, h3, h4, h5, by omega⟩
theorem Purse.same {H H' : Hp} {p : Addr} {c : Int} (h : Purse H p c) (s : Same H H') : Purse H' p c := by
  obtain ⟨x, y, z, h1, h2⟩ := h
  exact ⟨x, y, z, s _ _ h1, h2⟩
/-- a draw: any number below many -/
def spDrawn : Sp := fun vs H Q _ => ∃ (p : Addr) (c many : Int), vs = [.ref p, .int many] ∧ Purse H p c ∧ c ≤ 100000 ∧ 0 < many ∧ many < 2 ^ 200 ∧
  ∀ v H', 0 ≤ v → v < many → Purse H' p (c + 1) → Kp p H H' → Q (.int v) H'
theorem ok_drawn (F : At K mg "_law_drawn" s__law_drawn ["purse", "many"]) : Dn P w K mg base CX0 1 "_law_drawn" ["purse", "many"] spDrawn := by
  refine F.ok sc__law_drawn (fun vs H Q E h => ?_) (fun f cdv A outer s H vs Q E hr h => ?_)
  · obtain ⟨p, c, many, rfl, _⟩ := h
    rfl
  · obtain ⟨p, c, many, rfl, ⟨x, y, z, hp, x0, y0, y1, z0, zc⟩, c1, m0, m1, q⟩ := h
    refine ⟨_, (pss_cons (ps_if (pt_cmpR op_gt (pe_ix ix_list (pv 0) pe_int (fun _ _ => rfl)) pe_int (nomark _)) (pss_cons (ps_set (i := 2) sc__law_drawn.nd rfl (by first | exact Or.inl rfl | exact Or.inr rfl) (pe_op op_mod (pe_ix ix_list (pv 0) pe_int (fun _ _ => rfl)) (pv 1)))
  (pss_cons (ps_asg (pe_op op_fdivW (pe_ix ix_list (pv 0) pe_int (fun _ _ => rfl)) (pv 1)) (pg_sub (pv 0) pe_int set_list))
  (pss_one (ps_ret (pv 2))))) pss_nil)
  (pss_cons (ps_set (i := 3) sc__law_drawn.nd rfl (by first | exact Or.inl rfl | exact Or.inr rfl) (pe_op op_add (pe_ix ix_list (pv 0) pe_int (fun _ _ => rfl)) pe_int))
  (pss_cons (ps_asg (pv 3) (pg_sub (pv 0) pe_int set_list))
  (pss_cons (ps_set (i := 4) sc__law_drawn.nd rfl (by first | exact Or.inl rfl | exact Or.inr rfl) (pe_op op_mod (pe_op op_powW (pe_op op_add (pe_op op_add (pe_ix ix_list (pv 0) pe_int (fun _ _ => rfl)) (pe_op op_mul (pe_op op_mul pe_int (pv 3)) (pv 3))) (pe_op op_mul pe_int (pv 3))) pe_int) (pe_op op_add (pe_op op_pow pe_int pe_int) pe_int)))
  (pss_cons (ps_set (i := 4) sc__law_drawn.nd rfl (by first | exact Or.inl rfl | exact Or.inr rfl) (pe_op op_mod (pe_op op_powW (pe_op op_add (pv 4) (pe_op op_mul pe_int (pv 3))) pe_int) (pe_op op_add (pe_op op_pow pe_int pe_int) pe_int)))
  (pss_one (ps_ret (pe_op op_mod (pe_op op_fdiv (pv 4) pe_int) (pv 1))))))))), ?_⟩
    refine ⟨_, rfl, _, _, _, _, rfl, rfl, SqL.of hp, rfl, _, _, rfl, rfl, _, rfl, iteD (fun hx => ?_) fun hx => ?_⟩
    · refine ⟨_, rfl, _, _, _, _, rfl, rfl, SqL.of hp, rfl, _, rfl, _, _, rfl, rfl, m0, ?_⟩
      refine ⟨_, rfl, _, _, _, _, rfl, rfl, SqL.of hp, rfl, _, rfl, _, _, rfl, rfl, wide_div m0 (b := 200) (by omega) (by decide) (by decide), ?_⟩
      refine ⟨_, rfl, _, _, _, 0, rfl, rfl, hp, rfl, _, rfl, ?_⟩
      refine q _ _ (Int.emod_nonneg _ (by omega)) (Int.emod_lt_of_pos _ m0) ⟨_, y, z, upd_same, Int.ediv_nonneg x0 (by omega), y0, y1, z0, by omega⟩ Kp.put
    · have t0 : 0 ≤ z + 1 := by omega
      have t1 : z + 1 ≤ 100001 := by omega
      refine ⟨_, rfl, _, _, _, _, rfl, rfl, SqL.of hp, rfl, _, _, rfl, rfl, _, rfl, _, rfl, _, _, _, 2, rfl, rfl, hp, rfl, ?_⟩
      refine ⟨_, rfl, _, _, _, _, rfl, rfl, SqL.of upd_same, rfl, _, rfl, _, _, rfl, rfl, .inl ⟨by decide, by decide⟩, _, rfl, _, _, rfl, rfl, .inl ⟨by omega, by omega⟩, _, _, rfl, rfl, _, rfl, _, _, rfl, rfl, .inl ⟨by decide, by decide⟩, _, _, rfl, rfl, ?_⟩
      have b1 : (15485863 * (z + 1)) * (z + 1) ≤ 15485863 * 100001 * 100001 := Int.mul_le_mul (by omega) t1 t0 (by omega)
      have b0 : 0 ≤ (15485863 * (z + 1)) * (z + 1) := Int.mul_nonneg (by omega) t0
      refine ⟨_, _, rfl, rfl, CPowW.mk (a := 220) (n := 5) ?_ (by decide) (by decide), _, _, rfl, rfl, ⟨by decide, by decide, by decide⟩, _, _, rfl, rfl, _, _, rfl, rfl, (by show (0 : Int) < _; decide), ?_⟩
      · have e : (2 : Int) ^ 210 + 15485863 * 100001 * 100001 + 32452843 * 100001 < 2 ^ 220 := by decide
        have e2 : ((2 : Nat) ^ 220 : Nat) = (2 ^ 220 : Nat) := rfl
        omega
      generalize hm : ((y + 15485863 * (z + 1) * (z + 1) + 32452843 * (z + 1)) ^ (5 : Int).toNat % (10 ^ (18 : Int).toNat + 9) : Int) = m
      have m2 : 0 ≤ m := by rw [← hm]; exact Int.emod_nonneg _ (by decide)
      have m3 : m < 10 ^ (18 : Int).toNat + 9 := by rw [← hm]; exact Int.emod_lt_of_pos _ (by decide)
      refine ⟨_, rfl, _, rfl, _, _, rfl, rfl, .inl ⟨by decide, by decide⟩, _, _, rfl, rfl, _, _, rfl, rfl, CPowW.mk (a := 220) (n := 5) ?_ (by decide) (by decide), _, _, rfl, rfl, ⟨by decide, by decide, by decide⟩, _, _, rfl, rfl, _, _, rfl, rfl, (by show (0 : Int) < _; decide), ?_⟩
      · have e : (10 : Int) ^ (18 : Int).toNat + 9 + 49979687 * 100001 < 2 ^ 220 := by decide
        omega
      refine ⟨_, rfl, _, _, rfl, rfl, ⟨by decide, by decide⟩, _, rfl, _, _, rfl, rfl, m0, ?_⟩
      refine q _ _ (Int.emod_nonneg _ (by omega)) (Int.emod_lt_of_pos _ m0) ⟨x, y, z + 1, upd_same, x0, y0, y1, by omega, by omega⟩ Kp.put
def spPlus : Sp := fun vs H Q _ => ∃ a b : Int, vs = [.int a, .int b] ∧ Q (.int ((a + b) % 97)) H
def spMinus : Sp := fun vs H Q _ => ∃ a b : Int, vs = [.int a, .int b] ∧ Q (.int ((a - b) % 97)) H
def spTimes : Sp := fun vs H Q _ => ∃ a b : Int, vs = [.int a, .int b] ∧ Bd a ∧ Bd b ∧ Q (.int ((a * b) % 97)) H
def spPower : Sp := fun vs H Q _ => ∃ a n : Int, vs = [.int a, .int n] ∧ Bd a ∧ 0 ≤ n ∧ Q (.int (a ^ n.toNat % 97)) H
theorem ok_plus (T : Txt mg) (F : At K mg "plus" s_plus ["one", "other"]) : Dn P w K mg base CX0 1 "plus" ["one", "other"] spPlus := by
  refine F.ok sc_plus (fun vs H Q E h => ?_) (fun f cdv A outer s H vs Q E hr h => ?_)
  · obtain ⟨a, b, rfl, _⟩ := h
    rfl
  · obtain ⟨a, b, rfl, q⟩ := h
    refine ⟨_, (pss_one (ps_ret (pe_op op_mod (pe_op op_add (pv 0) (pv 1)) (pe_glob rfl T.g_PRIME (by exact T.v_PRIME))))), ?_⟩
    walk_at "rd"
    exact ⟨by show (0 : Int) < 97; decide, q⟩
theorem ok_minus (T : Txt mg) (F : At K mg "minus" s_minus ["one", "other"]) : Dn P w K mg base CX0 1 "minus" ["one", "other"] spMinus := by
  refine F.ok sc_minus (fun vs H Q E h => ?_) (fun f cdv A outer s H vs Q E hr h => ?_)
  · obtain ⟨a, b, rfl, _⟩ := h
    rfl
  · obtain ⟨a, b, rfl, q⟩ := h
    refine ⟨_, (pss_one (ps_ret (pe_op op_mod (pe_op op_sub (pv 0) (pv 1)) (pe_glob rfl T.g_PRIME (by exact T.v_PRIME))))), ?_⟩
    walk_at "rd"
    exact ⟨by show (0 : Int) < 97; decide, q⟩
theorem ok_times (T : Txt mg) (F : At K mg "times" s_times ["one", "other"]) : Dn P w K mg base CX0 1 "times" ["one", "other"] spTimes := by
  refine F.ok sc_times (fun vs H Q E h => ?_) (fun f cdv A outer s H vs Q E hr h => ?_)
  · obtain ⟨a, b, rfl, _⟩ := h
    rfl
  · obtain ⟨a, b, rfl, ha, hb, q⟩ := h
    refine ⟨_, (pss_one (ps_ret (pe_op op_mod (pe_op op_mulW (pv 0) (pv 1)) (pe_glob rfl T.g_PRIME (by exact T.v_PRIME))))), ?_⟩
    walk_at "rd"
    refine ⟨wide_mul (a := 250) (b := 250) ha hb (by decide) (by decide) (by decide), ?_⟩
    walk_at "rd"
    exact ⟨by show (0 : Int) < 97; decide, q⟩
theorem pow_step (pr sq : Int) (n : Nat) : (pr * sq % 97 * (sq * sq % 97) ^ n) % 97 = pr * sq ^ (2 * n + 1) % 97 := by
  rw [mod_ml, Int.mul_emod, mod_pw, ← Int.mul_emod, Int.mul_pow, Int.pow_succ, show 2 * n = n + n by omega, Int.pow_add]
  congr 1
  simp only [Int.mul_assoc, Int.mul_comm, Int.mul_left_comm]
theorem pow_step0 (pr sq : Int) (n : Nat) : (pr * (sq * sq % 97) ^ n) % 97 = pr * sq ^ (2 * n) % 97 := by
  rw [Int.mul_emod, mod_pw, ← Int.mul_emod, Int.mul_pow, show 2 * n = n + n by omega, Int.pow_add]
theorem ok_power (D_times : Dn P w K mg base CX0 1 "times" ["one", "other"] spTimes) (F : At K mg "power" s_power ["one", "many"]) : Dn P w K mg base CX0 2 "power" ["one", "many"] spPower := by
  refine F.ok sc_power (fun vs H Q E h => ?_) (fun f cdv A outer s H vs Q E hr h => ?_)
  · obtain ⟨a, b, rfl, _⟩ := h
    rfl
  · obtain ⟨a, n0, rfl, ha, hn, q⟩ := h
    refine ⟨_, (pss_cons (ps_set (i := 2) sc_power.nd rfl (by first | exact Or.inl rfl | exact Or.inr rfl) pe_int)
  (pss_cons (ps_set (i := 3) sc_power.nd rfl (by first | exact Or.inl rfl | exact Or.inr rfl) (pv 0))
  (pss_cons (ps_set (i := 4) sc_power.nd rfl (by first | exact Or.inl rfl | exact Or.inr rfl) (pv 1))
  (pss_cons (ps_while PassesOwn.never (pt_cmpR op_gt (pv 4) pe_int (nomark _))
  (pss_cons (ps_if (pt_cmpR op_eq (pe_op op_mod (pv 4) pe_int) pe_int (nomark _)) (pss_one (ps_set (i := 2) sc_power.nd rfl (by first | exact Or.inl rfl | exact Or.inr rfl) (pe_callD D_times (by first | exact hr | exact hr.mono (by decide)) (pa_cons (pv 2) (pa_cons (pv 3) pa_nil))))) pss_nil)
  (pss_cons (ps_set (i := 3) sc_power.nd rfl (by first | exact Or.inl rfl | exact Or.inr rfl) (pe_callD D_times (by first | exact hr | exact hr.mono (by decide)) (pa_cons (pv 3) (pa_cons (pv 3) pa_nil))))
  (pss_one (ps_set (i := 4) sc_power.nd rfl (by first | exact Or.inl rfl | exact Or.inr rfl) (pe_op op_fdiv (pv 4) pe_int))))))
  (pss_one (ps_ret (pv 2))))))), ?_⟩
    walk_at "rd"
    refine while_by (fun σ H' => ∃ pr sq n : Int, σ = [some (.int a), some (.int n0), some (.int pr), some (.int sq), some (.int n)] ∧ H' = H ∧ 0 ≤ pr ∧ pr < 97 ∧ Bd sq ∧ 0 ≤ n ∧ (pr * sq ^ n.toNat) % 97 = a ^ n0.toNat % 97)
      (fun σ _ => match σ with | [_, _, _, _, some (.int n)] => n.toNat | _ => 0) ⟨1, a, n0, rfl, rfl, by decide, by decide, ha, hn, by rw [Int.one_mul]⟩ ?_
      (fun σ H Q Q' m h => by
        obtain ⟨v, e1, i, j, e2, e3, k, e4, q⟩ := h
        exact ⟨v, e1, i, j, e2, e3, k, e4, m _ _ q⟩)
    rintro σ H' ⟨pr, sq, n, rfl, rfl, p0, p1, hs, hn0, e⟩
    have bp : Bd pr := by
      have h2 : 97 < 2 ^ 250 := by decide
      unfold Bd
      omega
    walk_at "rd"
    refine iteD (fun h => ?_) fun h => ?_
    · walk_at "rd"
      refine ⟨by show (0 : Int) < 2; decide, ?_⟩
      have hh : n / 2 ≥ 0 := by omega
      walk_at "rd"
      refine iteI (fun ho => ?_) fun ho => ?_
      · walk_at "rd"
        refine ⟨⟨by decide, by decide⟩, ⟨_, _, _, rfl, rfl, Int.emod_nonneg _ (by decide), Int.emod_lt_of_pos _ (by decide), Bd.mod _, hh, ?_⟩, ?_⟩
        · rw [pow_step, ← e]
          congr 3
          omega
        · show (n / 2).toNat < n.toNat
          omega
      · walk_at "rd"
        refine ⟨⟨by decide, by decide⟩, ⟨_, _, _, rfl, rfl, p0, p1, Bd.mod _, hh, ?_⟩, ?_⟩
        · rw [pow_step0, ← e]
          congr 3
          omega
        · show (n / 2).toNat < n.toNat
          omega
    · walk_at "rd"
      have en : n = 0 := by omega
      subst en
      have : pr = a ^ n0.toNat % 97 := by
        rw [← e]
        rw [show (0 : Int).toNat = 0 from rfl, Int.pow_zero, Int.mul_one]
        omega
      rw [this]
      exact q
def spOver : Sp := fun vs H Q _ => ∃ a b : Int, vs = [.int a, .int b] ∧ Bd a ∧ Bd b ∧ b % 97 ≠ 0 ∧ Q (.int (a * b ^ 95 % 97)) H
theorem ok_over (T : Txt mg) (D_times : Dn P w K mg base CX0 1 "times" ["one", "other"] spTimes) (D_power : Dn P w K mg base CX0 2 "power" ["one", "many"] spPower) (F : At K mg "over" s_over ["one", "other"]) : Dn P w K mg base CX0 3 "over" ["one", "other"] spOver := by
  refine F.ok sc_over (fun vs H Q E h => ?_) (fun f cdv A outer s H vs Q E hr h => ?_)
  · obtain ⟨a, b, rfl, _⟩ := h
    rfl
  · obtain ⟨a, b, rfl, ha, hb, hn, q⟩ := h
    refine ⟨_, (pss_cons (ps_if (pt_cmpR op_eq (pe_op op_mod (pv 1) (pe_glob rfl T.g_PRIME (by exact T.v_PRIME))) pe_int (nomark _)) (pss_one ps_never) pss_nil)
  (pss_one (ps_ret (pe_callD D_times (by first | exact hr | exact hr.mono (by decide)) (pa_cons (pv 0) (pa_cons (pe_callD D_power (by first | exact hr | exact hr.mono (by decide)) (pa_cons (pv 1) (pa_cons (pe_op op_sub (pe_glob rfl T.g_PRIME (by exact T.v_PRIME)) pe_int) pa_nil))) pa_nil)))))), ?_⟩
    walk_at "rd"
    refine ⟨by show (0 : Int) < 97; decide, ?_⟩
    walk_at "rd"
    refine iteI (fun h => absurd h hn) fun _ => ?_
    walk_at "rd"
    refine ⟨by decide, _, _, rfl, ha, Bd.mod _, ?_⟩
    show Q (.int (a * (b ^ 95 % 97) % 97)) H
    rw [mod_mr]
    exact q
/-- a number of the law -/
def spNumber : Sp := fun vs H Q _ => ∃ (p : Addr) (c : Int), vs = [.ref p] ∧ Purse H p c ∧ c ≤ 90000 ∧ ∀ v H', Bd v → Purse H' p (c + 10) → Kp p H H' → Q (.int v) H'
theorem Purse.ne {H : Hp} {p l : Addr} {c : Int} (h : Purse H p c) (n : H l = none) : l ≠ p := by
  obtain ⟨x, y, z, h1, _⟩ := h
  exact (ne_of_none h1 n).symm
theorem bd_sign {s v : Int} {b : Int} (hs : s = 1 ∨ s = -1) (h0 : 0 ≤ v) (h1 : v < b) (hb : b ≤ 2 ^ 240) : Bd (s * v) ∧ Bd (s * 97 * v) := by
  have e : (2 : Int) ^ 240 * 97 < 2 ^ 250 := by decide
  have e2 : ((2 ^ 250 : Nat) : Int) = 2 ^ 250 := by decide
  unfold Bd
  rcases hs with rfl | rfl <;> constructor <;> omega
theorem ok_number (T : Txt mg) (D__law_drawn : Dn P w K mg base CX0 1 "_law_drawn" ["purse", "many"] spDrawn) (F : At K mg "_law_number" s__law_number ["purse"]) : Dn P w K mg base CX0 2 "_law_number" ["purse"] spNumber := by
  refine F.ok sc__law_number (fun vs H Q E h => ?_) (fun f cdv A outer s H vs Q E hr h => ?_)
  · obtain ⟨p, c, rfl, _⟩ := h
    rfl
  · obtain ⟨p, c, rfl, hp, hc, q⟩ := h
    refine ⟨_, (pss_cons (ps_set (i := 1) sc__law_number.nd rfl (by first | exact Or.inl rfl | exact Or.inr rfl) (pe_callD D__law_drawn (by first | exact hr | exact hr.mono (by decide)) (pa_cons (pv 0) (pa_cons pe_int pa_nil))))
  (pss_cons (ps_set (i := 2) sc__law_number.nd rfl (by first | exact Or.inl rfl | exact Or.inr rfl) (pe_ix ix_list (pe_lst (pa_cons pe_int (pa_cons (pe_un un_neg pe_int) pa_nil))) (pe_callD D__law_drawn (by first | exact hr | exact hr.mono (by decide)) (pa_cons (pv 0) (pa_cons pe_int pa_nil))) (fun _ _ => rfl)))
  (pss_cons (ps_if (pt_cmpR op_eq (pv 1) pe_int (nomark _)) (pss_one (ps_ret (pe_op op_mul (pv 2) (pe_callD D__law_drawn (by first | exact hr | exact hr.mono (by decide)) (pa_cons (pv 0) (pa_cons pe_int pa_nil)))))) pss_nil)
  (pss_cons (ps_if (pt_cmpR op_eq (pv 1) pe_int (nomark _)) (pss_one (ps_ret (pe_op op_mul (pe_op op_mul (pv 2) pe_int) (pe_callD D__law_drawn (by first | exact hr | exact hr.mono (by decide)) (pa_cons (pv 0) (pa_cons pe_int pa_nil)))))) pss_nil)
  (pss_cons (ps_set (i := 3) sc__law_number.nd rfl (by first | exact Or.inl rfl | exact Or.inr rfl) pe_int)
  (pss_cons (ps_for PassesOwn.never rfl (pi_range1 (by rfl) T.n_range (pa_cons (pe_ix ix_list (pe_lst (pa_cons pe_int (pa_cons pe_int pa_nil))) (pe_op op_sub (pv 1) pe_int) (fun _ _ => rfl)) pa_nil)) (pg_name (i := 4) sc__law_number.nd rfl (by first | exact Or.inl rfl | exact Or.inr rfl))
  (pss_one (ps_set (i := 3) sc__law_number.nd rfl (by first | exact Or.inl rfl | exact Or.inr rfl) (pe_op op_add (pe_op op_mul (pv 3) (pe_op op_pow pe_int pe_int)) (pe_callD D__law_drawn (by first | exact hr | exact hr.mono (by decide)) (pa_cons (pv 0) (pa_cons (pe_op op_pow pe_int pe_int) pa_nil)))))))
  (pss_one (ps_ret (pe_op op_mul (pv 2) (pv 3)))))))))), ?_⟩
    refine ⟨_, rfl, p, c, 4, rfl, hp, by omega, by decide, by decide, fun v H1 v0 v1 hp1 k1 => ?_⟩
    refine ⟨_, rfl, by show 2 ≤ sizeLine; decide, fun l hl => ?_⟩
    refine ⟨_, rfl, p, c + 1, 2, rfl, hp1.same (Same.new hl), by omega, by decide, by decide, fun g H2 g0 g1 hp2 k2 => ?_⟩
    have hL : H2 l = some (.lst [.int 1, .int (-1)]) := k2 _ _ upd_same (hp1.ne hl)
    have kk : Kp p H H2 := (k1.trans (Kp.new hl)).trans k2
    obtain ⟨sg, hsg, esg⟩ : ∃ sg : Int, atI [V.int 1, V.int (-1)] g = some (.int sg) ∧ (sg = 1 ∨ sg = -1) := by
      rcases (by omega : g = 0 ∨ g = 1) with rfl | rfl
      · exact ⟨1, rfl, .inl rfl⟩
      · exact ⟨-1, rfl, .inr rfl⟩
    have csg : -(2 ^ 64) < sg ∧ sg < 2 ^ 64 := by omega
    refine ⟨_, _, _, _, rfl, rfl, SqL.of hL, hsg, ?_⟩
    refine ⟨_, rfl, rfl, _, rfl, iteI (fun e => ?_) fun ne0 => ?_⟩
    · refine ⟨_, rfl, _, rfl, p, c + 2, 200, rfl, hp2.mono (by omega), by omega, by decide, by decide, fun d H3 d0 d1 hp3 k3 => ?_⟩
      refine ⟨_, _, rfl, rfl, .inl csg, ?_⟩
      exact q _ _ (bd_sign esg d0 d1 (by decide)).1 (hp3.mono (by omega)) (kk.trans k3)
    refine ⟨_, rfl, rfl, _, rfl, iteI (fun e => ?_) fun ne1 => ?_⟩
    · refine ⟨_, rfl, _, _, rfl, rfl, .inl csg, _, rfl, p, c + 2, 1000, rfl, hp2.mono (by omega), by omega, by decide, by decide, fun d H3 d0 d1 hp3 k3 => ?_⟩
      refine ⟨_, _, rfl, rfl, .inl (by omega), ?_⟩
      exact q _ _ (bd_sign esg d0 d1 (by decide)).2 (hp3.mono (by omega)) (kk.trans k3)
    refine ⟨by show 2 ≤ sizeLine; decide, fun m hm => ?_⟩
    obtain ⟨n, hn, en⟩ : ∃ n : Int, atI [V.int 1, V.int 4] (v - 2) = some (.int n) ∧ 0 ≤ n ∧ n ≤ 4 := by
      rcases (by omega : v = 2 ∨ v = 3) with rfl | rfl
      · exact ⟨1, rfl, by omega, by omega⟩
      · exact ⟨4, rfl, by omega, by omega⟩
    refine ⟨_, rfl, _, _, rfl, rfl, _, _, _, _, rfl, rfl, SqL.of upd_same, hn, ?_⟩
    refine ⟨_, rfl, by omega, by omega, for_range (lo := 0) (n := n.toNat) (fun i σ H' => ∃ (fd : Int) (j : Option V), σ = [some (.ref p), some (.int v), some (.int sg), some (.int fd), j] ∧ i ≤ 4 ∧ 0 ≤ fd ∧ fd < 1000000000000000 ^ i ∧ Purse H' p (c + 2 + i) ∧ Kp p H H')
      ⟨0, none, rfl, by decide, by decide, by decide, (hp2.same (Same.new hm)).mono (by omega), kk.trans (Kp.new hm)⟩ ?_ ?_⟩
    · rintro i σ H' hi ⟨fd, j, rfl, i4, f0, f1, hp4, k4⟩
      refine ⟨_, rfl, _, _, rfl, rfl, ⟨by decide, by decide, by decide⟩, _, _, rfl, rfl, .inr ⟨by decide, by decide⟩, _, rfl, _, _, rfl, rfl, ⟨by decide, by decide, by decide⟩, p, c + 2 + i, _, rfl, hp4, by omega, by decide, by decide, fun d H5 d0 d1 hp5 k5 => ?_⟩
      refine ⟨_, _, rfl, rfl, _, _, rfl, by omega, ?_, ?_, hp5.mono (by omega), k4.trans k5⟩
      · have e : (10 : Int) ^ (15 : Int).toNat = 1000000000000000 := by decide
        rw [e]
        omega
      · have e : (10 : Int) ^ (15 : Int).toNat = 1000000000000000 := by decide
        rw [e] at d1 ⊢
        rw [Int.pow_succ]
        omega
    · rintro σ H' ⟨fd, j, rfl, i4, f0, f1, hp4, k4⟩
      refine ⟨_, rfl, _, rfl, _, _, rfl, rfl, .inl csg, ?_⟩
      refine q _ _ (bd_sign esg f0 f1 ?_).1 (hp4.mono (by omega)) k4
      rcases (by omega : n.toNat = 0 ∨ n.toNat = 1 ∨ n.toNat = 2 ∨ n.toNat = 3 ∨ n.toNat = 4) with e | e | e | e | e <;> rw [e] <;> decide
theorem bl_true {Q : VK} {H : Hp} {x y : Int} (h : x = y) (q : Q (.bl true) H) : Q (.bl (decide (V.int x = V.int y))) H := by
  rw [decide_eq_true (congrArg V.int h)]; exact q
theorem fm (x : Int) {o : Int} (h : o % 97 ≠ 0) : (x * o ^ 95) * o % 97 = x % 97 := by
  rw [Int.mul_assoc, ← Int.pow_succ, Int.mul_emod, fermat h, Int.mul_one, Int.emod_emod]
theorem fm2 (x : Int) {o : Int} (h : o % 97 ≠ 0) : (x * o) * o ^ 95 % 97 = x % 97 := by
  rw [Int.mul_assoc, Int.mul_comm o, ← Int.mul_assoc]; exact fm x h
theorem qn {o : Int} (h : o % 97 ≠ 0) : (1 * o ^ 95 % 97) % 97 ≠ 0 := fun e => by
  have z := fm 1 h
  rw [← mod_ml, ← mod_ml, e] at z
  simp at z
theorem q4 {o : Int} (h : o % 97 ≠ 0) : 1 * (1 * o ^ 95 % 97) ^ 95 % 97 = o % 97 := by
  rw [Int.one_mul, Int.one_mul, mod_pw, ← Int.pow_mul, show 95 * 95 = 96 * 94 + 1 from rfl, Int.pow_succ, Int.pow_mul, ← mod_ml, ← mod_pw, fermat h]
  simp
theorem ok_sums (T : Txt mg) (D_plus : Dn P w K mg base CX0 1 "plus" ["one", "other"] spPlus) (D_minus : Dn P w K mg base CX0 1 "minus" ["one", "other"] spMinus) (D_times : Dn P w K mg base CX0 1 "times" ["one", "other"] spTimes)
    (F : At K mg "_law_sums" s__law_sums ["one", "other", "third"]) : Dn P w K mg base CX0 2 "_law_sums" ["one", "other", "third"]
      (fun vs H Q _ => ∃ a b c : Int, vs = [.int a, .int b, .int c] ∧ Bd a ∧ Bd b ∧ Bd c ∧ Q (.bl true) H) := by
  refine F.ok sc__law_sums (fun vs H Q E h => ?_) (fun f cdv A outer s H vs Q E hr h => ?_)
  · obtain ⟨a, b, c, rfl, _⟩ := h
    rfl
  · obtain ⟨a, b, c, rfl, ha, hb, hc, q⟩ := h
    refine ⟨_, (pss_cons (ps_if (PW.pt (pw_or (pt_cmpR op_ne (pe_callD D_plus (by first | exact hr | exact hr.mono (by decide)) (pa_cons (pe_callD D_minus (by first | exact hr | exact hr.mono (by decide)) (pa_cons (pv 0) (pa_cons (pv 1) pa_nil))) (pa_cons (pv 1) pa_nil))) (pe_op op_mod (pv 0) pe_int) (nomark _)) (pw_or1 (pt_cmpR op_ne (pe_callD D_minus (by first | exact hr | exact hr.mono (by decide)) (pa_cons (pe_callD D_plus (by first | exact hr | exact hr.mono (by decide)) (pa_cons (pv 0) (pa_cons (pv 1) pa_nil))) (pa_cons (pv 0) pa_nil))) (pe_op op_mod (pv 1) pe_int) (nomark _))))) (pss_one (ps_ret pe_bl)) pss_nil)
  (pss_cons (ps_if (PW.pt (pw_or (pt_cmpR op_ne (pe_callD D_plus (by first | exact hr | exact hr.mono (by decide)) (pa_cons (pv 0) (pa_cons (pe_callD D_plus (by first | exact hr | exact hr.mono (by decide)) (pa_cons (pv 1) (pa_cons (pv 2) pa_nil))) pa_nil))) (pe_callD D_plus (by first | exact hr | exact hr.mono (by decide)) (pa_cons (pe_callD D_plus (by first | exact hr | exact hr.mono (by decide)) (pa_cons (pv 0) (pa_cons (pv 1) pa_nil))) (pa_cons (pv 2) pa_nil))) (nomark _)) (pw_or1 (pt_cmpR op_ne (pe_callD D_plus (by first | exact hr | exact hr.mono (by decide)) (pa_cons (pv 0) (pa_cons (pv 1) pa_nil))) (pe_callD D_plus (by first | exact hr | exact hr.mono (by decide)) (pa_cons (pv 1) (pa_cons (pv 0) pa_nil))) (nomark _))))) (pss_one (ps_ret pe_bl)) pss_nil)
  (pss_cons (ps_if (pt_cmpR op_ne (pe_callD D_times (by first | exact hr | exact hr.mono (by decide)) (pa_cons (pv 0) (pa_cons (pe_callD D_plus (by first | exact hr | exact hr.mono (by decide)) (pa_cons (pv 1) (pa_cons (pv 2) pa_nil))) pa_nil))) (pe_callD D_plus (by first | exact hr | exact hr.mono (by decide)) (pa_cons (pe_callD D_times (by first | exact hr | exact hr.mono (by decide)) (pa_cons (pv 0) (pa_cons (pv 1) pa_nil))) (pa_cons (pe_callD D_times (by first | exact hr | exact hr.mono (by decide)) (pa_cons (pv 0) (pa_cons (pv 2) pa_nil))) pa_nil))) (nomark _)) (pss_one (ps_ret pe_bl)) pss_nil)
  (pss_cons (ps_if (PW.pt (pw_or (pt_cmpR op_ne (pe_callD D_times (by first | exact hr | exact hr.mono (by decide)) (pa_cons (pv 0) (pa_cons (pe_callD D_times (by first | exact hr | exact hr.mono (by decide)) (pa_cons (pv 1) (pa_cons (pv 2) pa_nil))) pa_nil))) (pe_callD D_times (by first | exact hr | exact hr.mono (by decide)) (pa_cons (pe_callD D_times (by first | exact hr | exact hr.mono (by decide)) (pa_cons (pv 0) (pa_cons (pv 1) pa_nil))) (pa_cons (pv 2) pa_nil))) (nomark _)) (pw_or1 (pt_cmpR op_ne (pe_callD D_times (by first | exact hr | exact hr.mono (by decide)) (pa_cons (pv 0) (pa_cons (pv 1) pa_nil))) (pe_callD D_times (by first | exact hr | exact hr.mono (by decide)) (pa_cons (pv 1) (pa_cons (pv 0) pa_nil))) (nomark _))))) (pss_one (ps_ret pe_bl)) pss_nil)
  (pss_one (ps_ret (pe_and (pe_cmpR op_eq (pe_callD D_minus (by first | exact hr | exact hr.mono (by decide)) (pa_cons (pv 0) (pa_cons (pv 1) pa_nil))) (pe_callD D_plus (by first | exact hr | exact hr.mono (by decide)) (pa_cons (pv 0) (pa_cons (pe_callD D_times (by first | exact hr | exact hr.mono (by decide)) (pa_cons (pe_un un_neg pe_int) (pa_cons (pv 1) pa_nil))) pa_nil))) (nomark _)) (pe_one (pe_cmpR op_eq (pe_callD D_times (by first | exact hr | exact hr.mono (by decide)) (pa_cons (pv 0) (pa_cons pe_int pa_nil))) (pe_callD D_plus (by first | exact hr | exact hr.mono (by decide)) (pa_cons (pv 0) (pa_cons pe_int pa_nil))) (nomark _)))))))))), ?_⟩
    walk_at "rd"
    refine ⟨by show (0 : Int) < 97; decide, ?_⟩
    walk_at "rd"
    refine iteIn (fun h => absurd (by omega) h) fun _ => ?_
    walk_at "rd"
    refine ⟨by show (0 : Int) < 97; decide, ?_⟩
    walk_at "rd"
    refine iteIn (fun h => absurd (by omega) h) fun _ => ?_
    walk_at "rd"
    refine iteIn (fun h => absurd (by omega) h) fun _ => ?_
    walk_at "rd"
    refine iteIn (fun h => absurd (by omega) h) fun _ => ?_
    walk_at "rd"
    refine iteIn (fun h => absurd ?_ h) fun _ => ?_
    · rw [mod_mr, Int.mul_add]
      omega
    walk_at "rd"
    refine iteIn (fun h => absurd ?_ h) fun _ => ?_
    · rw [mod_mr, mod_ml, Int.mul_assoc]
    walk_at "rd"
    refine iteIn (fun h => absurd ?_ h) fun _ => ?_
    · rw [Int.mul_comm]
    walk_at "rd"
    refine iteI (fun _ => ?_) fun h => absurd ?_ h
    · walk_at "rd"
      exact bl_true (by omega) q
    · omega
theorem ok_quotients (T : Txt mg) (D_plus : Dn P w K mg base CX0 1 "plus" ["one", "other"] spPlus) (D_times : Dn P w K mg base CX0 1 "times" ["one", "other"] spTimes) (D_power : Dn P w K mg base CX0 2 "power" ["one", "many"] spPower) (D_over : Dn P w K mg base CX0 3 "over" ["one", "other"] spOver)
    (F : At K mg "_law_quotients" s__law_quotients ["one", "other", "third"]) : Dn P w K mg base CX0 4 "_law_quotients" ["one", "other", "third"]
      (fun vs H Q _ => ∃ a b c : Int, vs = [.int a, .int b, .int c] ∧ Bd a ∧ Bd b ∧ Bd c ∧ b % 97 ≠ 0 ∧ Q (.bl true) H) := by
  refine F.ok sc__law_quotients (fun vs H Q E h => ?_) (fun f cdv A outer s H vs Q E hr h => ?_)
  · obtain ⟨a, b, c, rfl, _⟩ := h
    rfl
  · obtain ⟨a, b, c, rfl, ha, hb, hc, hn, q⟩ := h
    refine ⟨_, (pss_cons (ps_if (PW.pt (pw_or (pt_cmpR op_ne (pe_callD D_times (by first | exact hr | exact hr.mono (by decide)) (pa_cons (pe_callD D_over (by first | exact hr | exact hr.mono (by decide)) (pa_cons (pv 0) (pa_cons (pv 1) pa_nil))) (pa_cons (pv 1) pa_nil))) (pe_op op_mod (pv 0) pe_int) (nomark _)) (pw_or1 (pt_cmpR op_ne (pe_callD D_over (by first | exact hr | exact hr.mono (by decide)) (pa_cons (pe_callD D_times (by first | exact hr | exact hr.mono (by decide)) (pa_cons (pv 0) (pa_cons (pv 1) pa_nil))) (pa_cons (pv 1) pa_nil))) (pe_op op_mod (pv 0) pe_int) (nomark _))))) (pss_one (ps_ret pe_bl)) pss_nil)
  (pss_cons (ps_if (PW.pt (pw_or (pt_cmpR op_ne (pe_callD D_over (by first | exact hr | exact hr.mono (by decide)) (pa_cons (pv 0) (pa_cons (pv 1) pa_nil))) (pe_callD D_times (by first | exact hr | exact hr.mono (by decide)) (pa_cons (pv 0) (pa_cons (pe_callD D_over (by first | exact hr | exact hr.mono (by decide)) (pa_cons pe_int (pa_cons (pv 1) pa_nil))) pa_nil))) (nomark _)) (pw_or1 (pt_cmpR op_ne (pe_callD D_over (by first | exact hr | exact hr.mono (by decide)) (pa_cons pe_int (pa_cons (pe_callD D_over (by first | exact hr | exact hr.mono (by decide)) (pa_cons pe_int (pa_cons (pv 1) pa_nil))) pa_nil))) (pe_op op_mod (pv 1) pe_int) (nomark _))))) (pss_one (ps_ret pe_bl)) pss_nil)
  (pss_cons (ps_if (pt_cmpR op_ne (pe_callD D_over (by first | exact hr | exact hr.mono (by decide)) (pa_cons (pe_callD D_plus (by first | exact hr | exact hr.mono (by decide)) (pa_cons (pv 0) (pa_cons (pv 2) pa_nil))) (pa_cons (pv 1) pa_nil))) (pe_callD D_plus (by first | exact hr | exact hr.mono (by decide)) (pa_cons (pe_callD D_over (by first | exact hr | exact hr.mono (by decide)) (pa_cons (pv 0) (pa_cons (pv 1) pa_nil))) (pa_cons (pe_callD D_over (by first | exact hr | exact hr.mono (by decide)) (pa_cons (pv 2) (pa_cons (pv 1) pa_nil))) pa_nil))) (nomark _)) (pss_one (ps_ret pe_bl)) pss_nil)
  (pss_cons (ps_if (PW.pt (pw_and (pt_cmpR op_ne (pe_op op_mod (pv 0) pe_int) pe_int (nomark _)) (pw_and1 (PW.pt (pw_or (pt_cmpR op_eq (pe_callD D_times (by first | exact hr | exact hr.mono (by decide)) (pa_cons (pv 0) (pa_cons (pv 1) pa_nil))) pe_int (nomark _)) (pw_or1 (pt_cmpR op_eq (pe_callD D_over (by first | exact hr | exact hr.mono (by decide)) (pa_cons (pv 0) (pa_cons (pv 1) pa_nil))) pe_int (nomark _)))))))) (pss_one (ps_ret pe_bl)) pss_nil)
  (pss_one (ps_ret (pe_and (pe_cmpR op_eq (pe_callD D_power (by first | exact hr | exact hr.mono (by decide)) (pa_cons (pv 1) (pa_cons pe_int pa_nil))) pe_int (nomark _)) (pe_one (pe_cmpR op_eq (pe_callD D_times (by first | exact hr | exact hr.mono (by decide)) (pa_cons (pe_callD D_power (by first | exact hr | exact hr.mono (by decide)) (pa_cons (pv 1) (pa_cons pe_int pa_nil))) (pa_cons (pv 1) pa_nil))) pe_int (nomark _)))))))))), ?_⟩
    have f1 : b ^ (96 : Int).toNat % 97 = 1 := fermat hn
    have f2 : b ^ (95 : Int).toNat % 97 * b % 97 = 1 := by
      rw [mod_ml]
      show b ^ 95 * b % 97 = 1
      rw [← Int.pow_succ]
      exact fermat hn
    walk_at "rd"
    refine ⟨hn, ?_⟩
    walk_at "rd"
    refine ⟨by show (0 : Int) < 97; decide, ?_⟩
    walk_at "rd"
    refine iteIn (fun h => absurd ?_ h) fun _ => ?_
    · rw [mod_ml, fm a hn]
    walk_at "rd"
    refine ⟨hn, ?_⟩
    walk_at "rd"
    refine ⟨by show (0 : Int) < 97; decide, ?_⟩
    walk_at "rd"
    refine iteIn (fun h => absurd ?_ h) fun _ => ?_
    · rw [mod_ml, fm2 a hn]
    walk_at "rd"
    refine ⟨hn, ?_⟩
    walk_at "rd"
    refine ⟨hn, ?_⟩
    walk_at "rd"
    refine iteIn (fun h => absurd ?_ h) fun _ => ?_
    · rw [mod_mr, Int.one_mul]
    walk_at "rd"
    refine ⟨hn, ?_⟩
    walk_at "rd"
    refine ⟨qn hn, ?_⟩
    walk_at "rd"
    refine ⟨by show (0 : Int) < 97; decide, ?_⟩
    walk_at "rd"
    refine iteIn (fun h => absurd (q4 hn) h) fun _ => ?_
    walk_at "rd"
    refine ⟨hn, ?_⟩
    walk_at "rd"
    refine ⟨hn, ?_⟩
    walk_at "rd"
    refine ⟨hn, ?_⟩
    walk_at "rd"
    refine iteIn (fun h => absurd ?_ h) fun _ => ?_
    · rw [mod_ml, Int.add_mul]
      omega
    walk_at "rd"
    refine ⟨by show (0 : Int) < 97; decide, ?_⟩
    walk_at "rd"
    refine iteIn (fun h1 => ?_) fun _ => ?_
    · walk_at "rd"
      refine iteI (fun h => ?_) fun _ => ?_
      · exfalso
        have z := fm2 a hn
        rw [← mod_ml, h] at z
        simp at z
        exact h1 z.symm
      walk_at "rd"
      refine ⟨hn, ?_⟩
      walk_at "rd"
      refine iteI (fun h => ?_) fun _ => ?_
      · exfalso
        have z := fm a hn
        rw [← mod_ml, h] at z
        simp at z
        exact h1 z.symm
      walk_at "rd"
      refine ⟨by decide, ?_⟩
      walk_at "rd"
      refine iteI (fun _ => ?_) fun h => absurd f1 h
      walk_at "rd"
      refine ⟨by decide, ?_⟩
      walk_at "rd"
      exact bl_true f2 q
    · walk_at "rd"
      refine ⟨by decide, ?_⟩
      walk_at "rd"
      refine iteI (fun _ => ?_) fun h => absurd f1 h
      walk_at "rd"
      refine ⟨by decide, ?_⟩
      walk_at "rd"
      exact bl_true f2 q
def spLaw (K : PySem.W.Frag) : Sp := fun vs H Q _ => ∃ (a : Addr) (ns : List Int), vs = [.ref a] ∧ SqL K H a (ns.map V.int) ∧ ns.length ≤ 63 ∧ ∀ H', Q (.bl true) H'
theorem times_size (n : Nat) (h : n ≤ 63) : 0 ≤ (if (if (n : Int) < 10 then (n : Int) else 10) > 1 then (if (n : Int) < 10 then (n : Int) else 10) else 1) ∧ (if (if (n : Int) < 10 then (n : Int) else 10) > 1 then (if (n : Int) < 10 then (n : Int) else 10) else 1) ≤ 10 := by
  split <;> split <;> omega
theorem ok_law (T : Txt mg) (D_times : Dn P w K mg base CX0 1 "times" ["one", "other"] spTimes) (D_power : Dn P w K mg base CX0 2 "power" ["one", "many"] spPower)
    (D__law_purse : Dn P w K mg base CX0 1 "_law_purse" ["script", "k"] (spPurse K)) (D__law_drawn : Dn P w K mg base CX0 1 "_law_drawn" ["purse", "many"] spDrawn) (D__law_number : Dn P w K mg base CX0 2 "_law_number" ["purse"] spNumber)
    (D__law_sums : Dn P w K mg base CX0 2 "_law_sums" ["one", "other", "third"] (fun vs H Q _ => ∃ a b c : Int, vs = [.int a, .int b, .int c] ∧ Bd a ∧ Bd b ∧ Bd c ∧ Q (.bl true) H))
    (D__law_quotients : Dn P w K mg base CX0 4 "_law_quotients" ["one", "other", "third"] (fun vs H Q _ => ∃ a b c : Int, vs = [.int a, .int b, .int c] ∧ Bd a ∧ Bd b ∧ Bd c ∧ b % 97 ≠ 0 ∧ Q (.bl true) H))
    {f : Addr} {fd : FuncData} (F : FunD K "law" "law" (defArgs s_law) (defBody s_law) (defScope s_law) [] [] f fd) : FnOk P w K mg base CX0 5 f fd ["script"] (spLaw K) := by
  refine ok0 F sc_law (fun vs H Q E h => ?_) (fun f cdv A outer s H vs Q E hr h => ?_)
  · obtain ⟨a, ns, rfl, _⟩ := h
    rfl
  · obtain ⟨a, ns, rfl, hS, hl, q⟩ := h
    refine ⟨_, (pss_cons (ps_for PassesOwn.never rfl (pi_range1 (by rfl) T.n_range (pa_cons (pe_callB (call_max2 rfl) (by rfl) T.n_max (by decide +kernel) (pa_cons pe_int (pa_cons (pe_callB (call_min2 rfl) (by rfl) T.n_min (by decide +kernel) (pa_cons pe_int (pa_cons (pe_callB call_len (by rfl) T.n_len (by decide +kernel) (pa_cons (pv 0) pa_nil)) pa_nil))) pa_nil))) pa_nil)) (pg_name (i := 1) sc_law.nd rfl (by first | exact Or.inl rfl | exact Or.inr rfl))
  (pss_cons (ps_set (i := 2) sc_law.nd rfl (by first | exact Or.inl rfl | exact Or.inr rfl) (pe_callD D__law_purse (by first | exact hr | exact hr.mono (by decide)) (pa_cons (pv 0) (pa_cons (pv 1) pa_nil))))
  (pss_cons (ps_set (i := 3) sc_law.nd rfl (by first | exact Or.inl rfl | exact Or.inr rfl) (pe_callD D__law_drawn (by first | exact hr | exact hr.mono (by decide)) (pa_cons (pv 2) (pa_cons pe_int pa_nil))))
  (pss_cons (ps_set (i := 4) sc_law.nd rfl (by first | exact Or.inl rfl | exact Or.inr rfl) (pe_callD D__law_drawn (by first | exact hr | exact hr.mono (by decide)) (pa_cons (pv 2) (pa_cons pe_int pa_nil))))
  (pss_cons (ps_set (i := 5) sc_law.nd rfl (by first | exact Or.inl rfl | exact Or.inr rfl) (pe_callD D__law_number (by first | exact hr | exact hr.mono (by decide)) (pa_cons (pv 2) pa_nil)))
  (pss_cons (ps_set (i := 6) sc_law.nd rfl (by first | exact Or.inl rfl | exact Or.inr rfl) (pe_callD D__law_number (by first | exact hr | exact hr.mono (by decide)) (pa_cons (pv 2) pa_nil)))
  (pss_cons (ps_set (i := 7) sc_law.nd rfl (by first | exact Or.inl rfl | exact Or.inr rfl) (pe_callD D__law_number (by first | exact hr | exact hr.mono (by decide)) (pa_cons (pv 2) pa_nil)))
  (pss_cons (ps_if (pt_not (pt_val (pe_callD D__law_sums (by first | exact hr | exact hr.mono (by decide)) (pa_cons (pv 5) (pa_cons (pv 6) (pa_cons (pv 7) pa_nil)))))) (pss_one (ps_ret pe_bl)) pss_nil)
  (pss_cons (ps_if (PW.pt (pw_and (pt_cmpR op_ne (pe_op op_mod (pv 6) pe_int) pe_int (nomark _)) (pw_and1 (pt_not (pt_val (pe_callD D__law_quotients (by first | exact hr | exact hr.mono (by decide)) (pa_cons (pv 5) (pa_cons (pv 6) (pa_cons (pv 7) pa_nil))))))))) (pss_one (ps_ret pe_bl)) pss_nil)
  (pss_cons (ps_if (pt_cmpR op_ne (pe_callD D_power (by first | exact hr | exact hr.mono (by decide)) (pa_cons (pv 5) (pa_cons (pe_op op_add (pv 3) (pv 4)) pa_nil))) (pe_callD D_times (by first | exact hr | exact hr.mono (by decide)) (pa_cons (pe_callD D_power (by first | exact hr | exact hr.mono (by decide)) (pa_cons (pv 5) (pa_cons (pv 3) pa_nil))) (pa_cons (pe_callD D_power (by first | exact hr | exact hr.mono (by decide)) (pa_cons (pv 5) (pa_cons (pv 4) pa_nil))) pa_nil))) (nomark _)) (pss_one (ps_ret pe_bl)) pss_nil)
  (pss_cons (ps_set (i := 8) sc_law.nd rfl (by first | exact Or.inl rfl | exact Or.inr rfl) (pe_callD D_times (by first | exact hr | exact hr.mono (by decide)) (pa_cons (pv 5) (pa_cons (pv 6) pa_nil))))
  (pss_one (ps_if (PW.pt (pw_or (pt_cmpR op_ne (pe_callD D_power (by first | exact hr | exact hr.mono (by decide)) (pa_cons (pv 8) (pa_cons (pv 3) pa_nil))) (pe_callD D_times (by first | exact hr | exact hr.mono (by decide)) (pa_cons (pe_callD D_power (by first | exact hr | exact hr.mono (by decide)) (pa_cons (pv 5) (pa_cons (pv 3) pa_nil))) (pa_cons (pe_callD D_power (by first | exact hr | exact hr.mono (by decide)) (pa_cons (pv 6) (pa_cons (pv 3) pa_nil))) pa_nil))) (nomark _)) (pw_or1 (pt_cmpR op_ne (pe_callD D_power (by first | exact hr | exact hr.mono (by decide)) (pa_cons (pv 5) (pa_cons pe_int pa_nil))) pe_int (nomark _))))) (pss_one (ps_ret pe_bl)) pss_nil)))))))))))))
  (pss_one (ps_ret pe_bl))), ?_⟩
    walk_at "rd"
    obtain ⟨z0, z1⟩ := times_size (ns.map V.int).length (by rw [List.length_map]; exact hl)
    refine ⟨_, _, rfl, .inl ⟨_, hS, rfl⟩, _, _, rfl, _, _, rfl, _, rfl, by omega, by omega, ?_⟩
    refine for_range (lo := 0) (fun i σ H' => ∃ v1 v2 v3 v4 v5 v6 v7 v8, σ = [some (.ref a), v1, v2, v3, v4, v5, v6, v7, v8] ∧ SqL K H' a (ns.map V.int)) ⟨none, none, none, none, none, none, none, none, rfl, hS⟩ ?_ ?_
    · rintro i σ H0 hi ⟨v1, v2, v3, v4, v5, v6, v7, v8, rfl, hS0⟩
      walk_at "rd"
      refine ⟨a, ns, _, rfl, hS0, by omega, by omega, by omega, fun p x y np x0 y0 y1 => ?_⟩
      walk_at "rd"
      have hp0 : Purse (upd H0 p (.lst [.int x, .int y, .int 0])) p 0 := ⟨x, y, 0, upd_same, x0, y0, y1, by omega, by omega⟩
      refine ⟨p, 0, 501, rfl, hp0, by omega, by decide, by decide, fun many H1 a0 a1 hp1 k1 => ?_⟩
      walk_at "rd"
      refine ⟨p, 0 + 1, 501, rfl, hp1, by omega, by decide, by decide, fun more H2 b0 b1 hp2 k2 => ?_⟩
      walk_at "rd"
      refine ⟨p, _, rfl, hp2, by omega, fun one H3 d1 hp3 k3 => ?_⟩
      walk_at "rd"
      refine ⟨p, _, rfl, hp3, by omega, fun other H4 d2 hp4 k4 => ?_⟩
      walk_at "rd"
      refine ⟨p, _, rfl, hp4, by omega, fun third H5 d3 hp5 k5 => ?_⟩
      have kk : Same H0 H5 := Kp.same (Same.refl _) np ((((Kp.new np).trans k1).trans k2).trans (k3.trans (k4.trans k5)))
      have e1 : one ^ (many + more).toNat % 97 = one ^ many.toNat % 97 * (one ^ more.toNat % 97) % 97 := by
        rw [← Int.mul_emod, ← Int.pow_add]
        congr 2
        omega
      have e2 : (one * other % 97) ^ many.toNat % 97 = one ^ many.toNat % 97 * (other ^ many.toNat % 97) % 97 := by
        rw [← Int.mul_emod, mod_pw, Int.mul_pow]
      walk_at "rd"
      refine ⟨by show (0 : Int) < 97; decide, ?_⟩
      walk_at "rd"
      refine iteIn (fun hq => ?_) fun _ => ?_
      · walk_at "rd"
        refine ⟨hq, ?_⟩
        walk_at "rd"
        refine ⟨by omega, ?_⟩
        walk_at "rd"
        refine ⟨by omega, ?_⟩
        walk_at "rd"
        refine ⟨by omega, ?_⟩
        walk_at "rd"
        refine iteIn (fun h => absurd e1 h) fun _ => ?_
        walk_at "rd"
        refine ⟨by omega, ?_⟩
        walk_at "rd"
        refine ⟨by omega, ?_⟩
        walk_at "rd"
        refine ⟨by omega, ?_⟩
        walk_at "rd"
        refine iteIn (fun h => absurd e2 h) fun _ => ?_
        walk_at "rd"
        refine ⟨by decide, ?_⟩
        walk_at "rd"
        refine iteIn (fun h => absurd (show one ^ (0 : Int).toNat % 97 = 1 by rw [show (0 : Int).toNat = 0 from rfl, Int.pow_zero]; rfl) h) fun _ => ?_
        walk_at "rd"
        exact ⟨_, _, _, _, _, _, _, _, rfl, Same.seq kk hS0⟩
      · walk_at "rd"
        refine ⟨by omega, ?_⟩
        walk_at "rd"
        refine ⟨by omega, ?_⟩
        walk_at "rd"
        refine ⟨by omega, ?_⟩
        walk_at "rd"
        refine iteIn (fun h => absurd e1 h) fun _ => ?_
        walk_at "rd"
        refine ⟨by omega, ?_⟩
        walk_at "rd"
        refine ⟨by omega, ?_⟩
        walk_at "rd"
        refine ⟨by omega, ?_⟩
        walk_at "rd"
        refine iteIn (fun h => absurd e2 h) fun _ => ?_
        walk_at "rd"
        refine ⟨by decide, ?_⟩
        walk_at "rd"
        refine iteIn (fun h => absurd (show one ^ (0 : Int).toNat % 97 = 1 by rw [show (0 : Int).toNat = 0 from rfl, Int.pow_zero]; rfl) h) fun _ => ?_
        walk_at "rd"
        exact ⟨_, _, _, _, _, _, _, _, rfl, Same.seq kk hS0⟩
    · rintro σ H' ⟨v1, v2, v3, v4, v5, v6, v7, v8, rfl, hS0⟩
      exact q _
end
def d_plus : He.DefD := ⟨("plus", none), "plus", "plus", defArgs s_plus, defBody s_plus, defScope s_plus, [], []⟩
def d_minus : He.DefD := ⟨("minus", none), "minus", "minus", defArgs s_minus, defBody s_minus, defScope s_minus, [], []⟩
def d_times : He.DefD := ⟨("times", none), "times", "times", defArgs s_times, defBody s_times, defScope s_times, [], []⟩
def d_power : He.DefD := ⟨("power", none), "power", "power", defArgs s_power, defBody s_power, defScope s_power, [], []⟩
def d_over : He.DefD := ⟨("over", none), "over", "over", defArgs s_over, defBody s_over, defScope s_over, [], []⟩
def d__law_purse : He.DefD := ⟨("_law_purse", none), "_law_purse", "_law_purse", defArgs s__law_purse, defBody s__law_purse, defScope s__law_purse, [], []⟩
def d__law_drawn : He.DefD := ⟨("_law_drawn", none), "_law_drawn", "_law_drawn", defArgs s__law_drawn, defBody s__law_drawn, defScope s__law_drawn, [], []⟩
def d__law_number : He.DefD := ⟨("_law_number", none), "_law_number", "_law_number", defArgs s__law_number, defBody s__law_number, defScope s__law_number, [], []⟩
def d__law_sums : He.DefD := ⟨("_law_sums", none), "_law_sums", "_law_sums", defArgs s__law_sums, defBody s__law_sums, defScope s__law_sums, [], []⟩
def d__law_quotients : He.DefD := ⟨("_law_quotients", none), "_law_quotients", "_law_quotients", defArgs s__law_quotients, defBody s__law_quotients, defScope s__law_quotients, [], []⟩
def d_law : He.DefD := ⟨("law", none), "law", "law", defArgs s_law, defBody s_law, defScope s_law, [], []⟩
def fn : List He.DefD := [d_plus, d_minus, d_times, d_power, d_over, d__law_purse, d__law_drawn, d__law_number, d__law_sums, d__law_quotients, d_law]
def fa : List He.Fa := [.glo "plus", .glo "minus", .glo "times", .glo "power", .glo "over", .glo "_law_purse", .glo "_law_drawn", .glo "_law_number", .glo "_law_sums", .glo "_law_quotients", .glo "law", .free "len", .free "max", .free "min", .free "range", .int "PRIME" 97]
abbrev R : PySem.W.OpenRow := PySem.W.OpenLaw.row PySem.Challenge.rw_sherdhall_k02_whole_a_field
abbrev hk : PySem.W.Hook := He.hookD 4 fa fn
def ob (s : PySem.W.SharedT) : He.AlD := He.obsDG 4 fa fn (HandSHeadRun.getT s)
theorem ob_eq (s : PySem.W.SharedT) : ob s = hk.obs s.abs := He.obsDG_eq (HandSHeadRun.getT_eq s)
def loose0 : List Str := ["__name__", "SherdError", "NoRest", "plus", "minus", "times", "power", "over", "_law_purse", "_law_drawn", "_law_number", "_law_sums", "_law_quotients", "PRIME"]
def loose : List Str := loose0
theorem run (w : World) : HandSHeadRun.RunEq R (PySem.W.view R.prog [16]) hk ob 12000 loose w := by
  intro os
  kernel_rfl
theorem facts {P : Program} {w : World} {K : PySem.W.Frag} {h : Heap} {mg : Str → Option Value} {f : Addr} (X : K.In h) (G : h.Ns mainGlobals mg) (hfa : mg ("law" : Str) = some (.ref f)) (c : He.SaysD fa fn K) :
    ∃ fd : FuncData, (∀ (s : Shared) (v : Value), BindsTo s fd ⟨[v], []⟩ [("script", v)]) ∧ ∀ base : Heap, K.In base → base.Ns mainGlobals mg → FnOk P w K mg base CX0 5 f fd ["script"] (spLaw K) := by
  obtain ⟨fd_plus, F_plus⟩ := c.def_ 0 (d := d_plus) rfl
  have A_plus : At K mg "plus" s_plus ["one", "other"] := ⟨_, _, F_plus, He.glo_ok X G (c.fact 0 (f := .glo "plus") rfl), F_plus.bindsN fun _ _ _ _ _ _ us hl => match us, hl with | [_, _], _ => rfl⟩
  obtain ⟨fd_minus, F_minus⟩ := c.def_ 1 (d := d_minus) rfl
  have A_minus : At K mg "minus" s_minus ["one", "other"] := ⟨_, _, F_minus, He.glo_ok X G (c.fact 1 (f := .glo "minus") rfl), F_minus.bindsN fun _ _ _ _ _ _ us hl => match us, hl with | [_, _], _ => rfl⟩
  obtain ⟨fd_times, F_times⟩ := c.def_ 2 (d := d_times) rfl
  have A_times : At K mg "times" s_times ["one", "other"] := ⟨_, _, F_times, He.glo_ok X G (c.fact 2 (f := .glo "times") rfl), F_times.bindsN fun _ _ _ _ _ _ us hl => match us, hl with | [_, _], _ => rfl⟩
  obtain ⟨fd_power, F_power⟩ := c.def_ 3 (d := d_power) rfl
  have A_power : At K mg "power" s_power ["one", "many"] := ⟨_, _, F_power, He.glo_ok X G (c.fact 3 (f := .glo "power") rfl), F_power.bindsN fun _ _ _ _ _ _ us hl => match us, hl with | [_, _], _ => rfl⟩
  obtain ⟨fd_over, F_over⟩ := c.def_ 4 (d := d_over) rfl
  have A_over : At K mg "over" s_over ["one", "other"] := ⟨_, _, F_over, He.glo_ok X G (c.fact 4 (f := .glo "over") rfl), F_over.bindsN fun _ _ _ _ _ _ us hl => match us, hl with | [_, _], _ => rfl⟩
  obtain ⟨fd__law_purse, F__law_purse⟩ := c.def_ 5 (d := d__law_purse) rfl
  have A__law_purse : At K mg "_law_purse" s__law_purse ["script", "k"] := ⟨_, _, F__law_purse, He.glo_ok X G (c.fact 5 (f := .glo "_law_purse") rfl), F__law_purse.bindsN fun _ _ _ _ _ _ us hl => match us, hl with | [_, _], _ => rfl⟩
  obtain ⟨fd__law_drawn, F__law_drawn⟩ := c.def_ 6 (d := d__law_drawn) rfl
  have A__law_drawn : At K mg "_law_drawn" s__law_drawn ["purse", "many"] := ⟨_, _, F__law_drawn, He.glo_ok X G (c.fact 6 (f := .glo "_law_drawn") rfl), F__law_drawn.bindsN fun _ _ _ _ _ _ us hl => match us, hl with | [_, _], _ => rfl⟩
  obtain ⟨fd__law_number, F__law_number⟩ := c.def_ 7 (d := d__law_number) rfl
  have A__law_number : At K mg "_law_number" s__law_number ["purse"] := ⟨_, _, F__law_number, He.glo_ok X G (c.fact 7 (f := .glo "_law_number") rfl), F__law_number.bindsN fun _ _ _ _ _ _ us hl => match us, hl with | [_], _ => rfl⟩
  obtain ⟨fd__law_sums, F__law_sums⟩ := c.def_ 8 (d := d__law_sums) rfl
  have A__law_sums : At K mg "_law_sums" s__law_sums ["one", "other", "third"] := ⟨_, _, F__law_sums, He.glo_ok X G (c.fact 8 (f := .glo "_law_sums") rfl), F__law_sums.bindsN fun _ _ _ _ _ _ us hl => match us, hl with | [_, _, _], _ => rfl⟩
  obtain ⟨fd__law_quotients, F__law_quotients⟩ := c.def_ 9 (d := d__law_quotients) rfl
  have A__law_quotients : At K mg "_law_quotients" s__law_quotients ["one", "other", "third"] := ⟨_, _, F__law_quotients, He.glo_ok X G (c.fact 9 (f := .glo "_law_quotients") rfl), F__law_quotients.bindsN fun _ _ _ _ _ _ us hl => match us, hl with | [_, _, _], _ => rfl⟩
  obtain ⟨fd_law, F_law⟩ := c.def_ 10 (d := d_law) rfl
  obtain ⟨t_PRIME, g_PRIME⟩ := He.int_ok X G (c.fact 15 (f := .int "PRIME" 97) rfl)
  have T : Txt mg := ⟨He.free_ok X G (c.fact 11 (f := .free "len") rfl), He.free_ok X G (c.fact 12 (f := .free "max") rfl), He.free_ok X G (c.fact 13 (f := .free "min") rfl), He.free_ok X G (c.fact 14 (f := .free "range") rfl), _, g_PRIME, ⟨_, rfl⟩⟩
  have e := hfa.symm.trans (He.glo_ok X G (c.fact 10 (f := .glo "law") rfl))
  cases e
  have b := FunD.bindsA (ps := ["script"]) F_law fun _ _ _ _ _ _ us hl => match us, hl with | [_], _ => rfl
  refine ⟨fd_law, fun s v => b s [v] rfl, fun base _ _ => ?_⟩
  have D_plus := ok_plus (P := P) (w := w) (base := base) T A_plus
  have D_minus := ok_minus (P := P) (w := w) (base := base) T A_minus
  have D_times := ok_times (P := P) (w := w) (base := base) T A_times
  have D_power := ok_power D_times A_power
  have D_over := ok_over T D_times D_power A_over
  have D_purse := ok_purse (P := P) (w := w) (base := base) T A__law_purse
  have D_drawn := ok_drawn (P := P) (w := w) (base := base) A__law_drawn
  have D_number := ok_number T D_drawn A__law_number
  have D_sums := ok_sums T D_plus D_minus D_times A__law_sums
  have D_quot := ok_quotients T D_plus D_times D_power D_over A__law_quotients
  exact ok_law T D_times D_power D_purse D_drawn D_number D_sums D_quot F_law
end Hx
open PySem PySem.W PySem.Calls PyProof.Rows in
set_option maxRecDepth 100000 in
set_option maxHeartbeats 0 in
theorem PySem.Challenge.cw_sherdhall_k02_whole_a_field_holds : PySem.Challenge.rw_sherdhall_k02_whole_a_field.Holds := by
  w_on; o_law
  refine HandSHeadRun.head_any (r := OpenLaw.row PySem.Challenge.rw_sherdhall_k02_whole_a_field) (q := view (OpenLaw.row PySem.Challenge.rw_sherdhall_k02_whole_a_field).prog [16]) (H := Hx.hk) (ob := Hx.ob) (M := 12000) (loose := Hx.loose) (d := HandSHeadRun.topDef (OpenLaw.row PySem.Challenge.rw_sherdhall_k02_whole_a_field).prog 16) (kwd := []) Hx.ob_eq
    (by kernel_rfl) (fun s => by kernel_rfl) Hx.run (by kernel_rfl) (by kernel_rfl) (by kernel_rfl) (by rfl) (by first | assumption | decide +kernel) (by decide +kernel) ⟨rfl, rfl, rfl, rfl, rfl, by decide +kernel⟩ ?hw ?hc
  case hw => w_witness2
  case hc =>
    refine L2.walk_ofE (l := PySem.Challenge.rw_sherdhall_k02_whole_a_field) (n := 63) (k := 5) (x := "script") (CX := L2.CX0) rfl (by decide) (by kernel_rfl) ⟨rfl, by decide, by decide⟩ ?F (fun _ _ _ _ z => z)
    intro w mg fa h Y G hmg0
    obtain ⟨K, KX, c⟩ := Y
    have hmg : mg ("law" : PySem.Str) = some (.ref fa) := by
      have e : (HandSHeadRun.topDef (OpenLaw.row PySem.Challenge.rw_sherdhall_k02_whole_a_field).prog 16).name = ("law" : PySem.Str) := by kernel_rfl
      rw [← e]
      exact hmg0
    obtain ⟨fd, hb, hF⟩ := Hx.facts (P := (PySem.Challenge.rw_sherdhall_k02_whole_a_field).prog) (w := w) KX G hmg c
    exact ⟨K, fd, Hx.spLaw K, KX, hb, fun H a ns hl _ hS => ⟨a, ns, rfl, hS, hl, fun _ => rfl⟩, hF⟩
